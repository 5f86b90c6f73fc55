/-
  Plain words and lemmas for walks over descriptors, over no program: a slice of descriptors (structs of two bools and a number) that reads as a list; a row of them of the call's own, and how all are kept.
-/
import Derived.Test.YtndbaoiabmldgaaOct
import Derived.Test.YtndbaoiabmldgaaBlk
namespace Go.Proofs.Ytndbaoiabmldgaa
open Go.RowKit

/-- A descriptor: whether it is Open, whether Ready, and who waits. -/
abbrev Ds := Bool × Bool × Int

def dth (p : List Ds) (j : Nat) : Ds := p.getD j (false, false, 0)
def FitD (x : Ds) : Prop := Fit x.2.2
def who (p : List Ds) (j : Nat) : Int := (dth p j).2.2

theorem dth_get {p : List Ds} {j : Nat} (h : j < p.length) : dth p j = p[j] := by simp [dth, List.getD, h]

/-- The slice whose cells begin at A, of n descriptors (with room for c), reads as the list p. -/
def Dss (w : World) (A : Option Addr) (n c : Nat) (p : List Ds) : Prop :=
  p.length = n ∧ (n ≤ c ∧ c ≤ 9223372036854775807) ∧ (∀ x ∈ p, FitD x) ∧
    (0 < n → ∃ b o, A = some ⟨b, o, none⟩ ∧ b < w.heap.size ∧ ∀ j, j < n →
      w.cell? ⟨b, o + j * 3, none⟩ = some (.bool (dth p j).1) ∧ w.cell? ⟨b, o + j * 3 + 1, none⟩ = some (.bool (dth p j).2.1) ∧ w.cell? ⟨b, o + j * 3 + 2, none⟩ = some (.int .i64 (dth p j).2.2))

theorem Dss.keep {w w' : World} {A : Option Addr} {n c : Nat} {p : List Ds} (h : Dss w A n c p) (hs : w.heap.size ≤ w'.heap.size)
    (hk : ∀ q : Addr, q.block < w.heap.size → w'.cell? q = w.cell? q) : Dss w' A n c p :=
  ⟨h.1, h.2.1, h.2.2.1, fun hn => by
    obtain ⟨b, o, e, hb, hc⟩ := h.2.2.2 hn
    refine ⟨b, o, e, by omega, fun j hj => ?_⟩
    obtain ⟨h0, h1, h2⟩ := hc j hj
    exact ⟨(hk ⟨b, _, none⟩ hb).trans h0, (hk ⟨b, _, none⟩ hb).trans h1, (hk ⟨b, _, none⟩ hb).trans h2⟩⟩

theorem Dss.below {w w' : World} {A : Option Addr} {n c : Nat} {p : List Ds} (h : Dss w A n c p) (hb : Below w.heap.size w w') : Dss w' A n c p :=
  h.keep hb.size fun _ hp => hb.cell hp

theorem Dss.alloc {w : World} {A : Option Addr} {n c : Nat} {p : List Ds} (h : Dss w A n c p) (o : Obj) : Dss (w.alloc o) A n c p := h.below ((Below.refl _ _).alloc (Nat.le_refl _) o)

theorem Dss.nil_ (w : World) (A : Option Addr) {c : Nat} (hc : c ≤ 9223372036854775807) : Dss w A 0 c [] := ⟨rfl, by omega, by simp, fun h => by omega⟩

theorem Dss.fit {w : World} {A : Option Addr} {n c : Nat} {p : List Ds} (h : Dss w A n c p) {j : Nat} (hj : j < n) : FitD (dth p j) := by
  have hl : j < p.length := by rw [h.1]; exact hj
  have := h.2.2.1 _ (List.getElem_mem hl)
  rw [← dth_get hl] at this
  exact this

/-- One round's cells. -/
theorem Dss.at_ {w : World} {A : Option Addr} {n c : Nat} {p : List Ds} (h : Dss w A n c p) {j : Nat} (hj : j < n) : ∃ b o, A = some ⟨b, o, none⟩ ∧ b < w.heap.size ∧
    w.cell? ⟨b, o + j * 3, none⟩ = some (.bool (dth p j).1) ∧ w.cell? ⟨b, o + j * 3 + 1, none⟩ = some (.bool (dth p j).2.1) ∧ w.cell? ⟨b, o + j * 3 + 2, none⟩ = some (.int .i64 (dth p j).2.2) := by
  obtain ⟨b, o, e, hb, hc⟩ := h.2.2.2 (by omega)
  exact ⟨b, o, e, hb, hc j hj⟩

theorem dth_take {p : List Ds} {k j : Nat} (h : j < k) : dth (p.take k) j = dth p j := by simp [dth, List.getD, h]

/-- A beginning of it. -/
theorem Dss.take {w : World} {A : Option Addr} {n c : Nat} {p : List Ds} (h : Dss w A n c p) {k : Nat} (hk : k ≤ n) : Dss w A k c (p.take k) := by
  have h1 := h.1
  have h2 := h.2.1
  refine ⟨by rw [List.length_take]; omega, by omega, fun x hx => h.2.2.1 x (List.mem_of_mem_take hx), fun hn => ?_⟩
  obtain ⟨b, o, e, hb, hc⟩ := h.2.2.2 (by omega)
  refine ⟨b, o, e, hb, fun j hj => ?_⟩
  rw [dth_take hj]
  exact hc j (by omega)

/-- Its cells, one behind the other. -/
def cells3 (x : Ds) : List Value := [.bool x.1, .bool x.2.1, .int .i64 x.2.2]
def cellsD (p : List Ds) : List Value := p.flatMap cells3

theorem cellsD_len (p : List Ds) : (cellsD p).length = p.length * 3 := by
  induction p with
  | nil => rfl
  | cons x p ih => simp only [cellsD, List.flatMap_cons, List.length_append, List.length_cons] at ih ⊢; rw [ih]; simp [cells3]; omega

theorem cellsD_app (p q : List Ds) : cellsD (p ++ q) = cellsD p ++ cellsD q := by simp [cellsD]

theorem cellsD_one (p : List Ds) : ∀ u ∈ cellsD p, u.oneCell' = true := by
  intro u hu
  obtain ⟨x, _, hx⟩ := List.mem_flatMap.1 hu
  simp only [cells3, List.mem_cons, List.not_mem_nil, or_false] at hx
  rcases hx with rfl | rfl | rfl <;> rfl

theorem cellsD_at (p : List Ds) : ∀ {j : Nat}, j < p.length → (cellsD p)[j * 3]? = some (.bool (dth p j).1) ∧ (cellsD p)[j * 3 + 1]? = some (.bool (dth p j).2.1) ∧ (cellsD p)[j * 3 + 2]? = some (.int .i64 (dth p j).2.2) := by
  induction p with
  | nil => intro j hj; simp at hj
  | cons x p ih =>
    intro j hj
    match j with
    | 0 => exact ⟨rfl, rfl, rfl⟩
    | j + 1 =>
      have := ih (j := j) (by simpa using hj)
      have e : ∀ k, (cellsD (x :: p))[(j + 1) * 3 + k]? = (cellsD p)[j * 3 + k]? := fun k => by
        rw [show (j + 1) * 3 + k = (cells3 x).length + (j * 3 + k) by simp [cells3]; omega]
        simp only [cellsD, List.flatMap_cons]
        rw [List.getElem?_append_right (by omega)]
        congr 1
        omega
      have e0 := e 0
      simp only [Nat.add_zero] at e0
      rw [e0, e 1, e 2]
      exact this

/-- The cells of such a slice, by their number. -/
theorem Dss.src {w : World} {A : Option Addr} {n c : Nat} {p : List Ds} (h : Dss w A n c p) {a : Addr} (e : A = some a) : ∀ j u, (cellsD p)[j]? = some u → w.cell? (a.add j) = some u := by
  intro j u hu
  have hj : j < p.length * 3 := by rw [← cellsD_len]; exact (List.getElem?_eq_some_iff.1 hu).1
  obtain ⟨b, o, e', _, hc⟩ := h.2.2.2 (by have := h.1; omega)
  rw [e'] at e
  injection e with e
  subst e
  rw [Addr.add_lit]
  have hq : j / 3 < p.length := by omega
  obtain ⟨c0, c1, c2⟩ := hc (j / 3) (by have := h.1; omega)
  obtain ⟨d0, d1, d2⟩ := cellsD_at p hq
  have hr : j % 3 = 0 ∨ j % 3 = 1 ∨ j % 3 = 2 := by omega
  rcases hr with hr | hr | hr
  · rw [show j = j / 3 * 3 by omega] at hu ⊢
    rw [d0] at hu; rw [← hu]; exact c0
  · rw [show j = j / 3 * 3 + 1 by omega] at hu ⊢
    rw [d1] at hu; rw [← hu, ← Nat.add_assoc]; exact c1
  · rw [show j = j / 3 * 3 + 2 by omega] at hu ⊢
    rw [d2] at hu; rw [← hu, ← Nat.add_assoc]; exact c2

/-- A row of descriptors that the call has made itself. -/
def OwnD (E : TypeId) (w : World) (base : Nat) (A : Option Addr) (c : Nat) (p : List Ds) : Prop :=
  p.length * 16 ≤ 140737488351232 ∧ (∀ x ∈ p, FitD x) ∧ w.ownsRow base E 3 (.slice A p.length c) p.length (cellsD p)

theorem OwnD.dss {E : TypeId} {w : World} {base : Nat} {A : Option Addr} {c : Nat} {p : List Ds} (h : OwnD E w base A c p) : Dss w A p.length c p := by
  obtain ⟨hl, hf, hown⟩ := h
  refine ⟨rfl, ?_, hf, fun hn => ?_⟩
  · rcases hown.2 with ⟨h1, h2⟩ | ⟨g, cap, cur, e, hb, hh, hc, hm, _⟩
    · injection h1 with _ _ h1
      omega
    · injection e with e1 e2 e3
      subst e3
      unfold maxLen at hm
      omega
  obtain ⟨g, cap, hv, _, hlt⟩ := hown.form hn
  injection hv with hA _ _
  subst hA
  refine ⟨g, 0, rfl, hlt, fun j hj => ?_⟩
  obtain ⟨d0, d1, d2⟩ := cellsD_at p hj
  have g0 := hown.cells (g := g) rfl _ _ d0
  have g1 := hown.cells (g := g) rfl _ _ d1
  have g2 := hown.cells (g := g) rfl _ _ d2
  rw [Addr.add_lit] at g0 g1 g2
  exact ⟨g0, by rw [Nat.add_assoc]; exact g1, by rw [Nat.add_assoc]; exact g2⟩

theorem OwnD.below {E : TypeId} {w w' : World} {base : Nat} {A : Option Addr} {c : Nat} {p : List Ds} (h : OwnD E w base A c p) (hb : Below w.heap.size w w') : OwnD E w' base A c p :=
  ⟨h.1, h.2.1, h.2.2.kept (row := none) ⟨hb.os, hb.tape, hb.output, hb.size, fun k hk _ => hb.block k hk⟩ (by cases (Value.slice A p.length c).ownBlock <;> simp)⟩

theorem OwnD.base {E : TypeId} {w : World} {base base' : Nat} {A : Option Addr} {c : Nat} {p : List Ds} (h : OwnD E w base A c p) (hb : base' ≤ base) : OwnD E w base' A c p := by
  obtain ⟨hl, hf, h1, h2⟩ := h
  refine ⟨hl, hf, h1, ?_⟩
  rcases h2 with h2 | ⟨g, cap, cur, e, hg, r⟩
  · exact .inl h2
  · exact .inr ⟨g, cap, cur, e, by omega, r⟩

theorem OwnD.nil_ (E : TypeId) (w : World) (base : Nat) : OwnD E w base none 0 [] := ⟨by simp, by simp, World.ownsRow_nil w base E 3⟩

theorem OwnD.block {E : TypeId} {w : World} {base : Nat} {A : Option Addr} {c : Nat} {p : List Ds} (h : OwnD E w base A c p) {n d : Nat} : ∀ k, (Value.slice A n d).ownBlock = some k → base ≤ k := by
  intro k hk
  refine (h.2.2.lt k ?_).1
  cases A with
  | none => simp [Value.ownBlock] at hk
  | some ad => simpa [Value.ownBlock] using hk
theorem OwnD.made (E : TypeId) (w : World) : OwnD E (w.alloc (.cells #[] E)) w.heap.size (some ⟨w.heap.size, 0, none⟩) 0 [] :=
  ⟨by simp, by simp, World.ownsRow_made w #[] 0 (Nat.le_refl _) (by unfold maxLen; omega) (by simp)⟩
theorem OwnD.some_ {E : TypeId} {w : World} {base : Nat} {A : Option Addr} {c : Nat} {p : List Ds} (h : OwnD E w base A c p) (hn : 0 < p.length) : ∃ g, A = some ⟨g, 0, none⟩ ∧ g < w.heap.size ∧ base ≤ g := by
  obtain ⟨g, cap, hv, hb, hlt⟩ := h.2.2.form hn
  injection hv with hA _ _
  exact ⟨g, hA, hlt, hb⟩

theorem run_append_noneD {P : Program} (w : World) (base : Nat) (t ty e : TypeId) (i : TypeInfo) (sz : Nat) (ht : P.underlying t = some (.slice e)) (hi : P.info? e = some i)
    (v : Value) (n : Nat) (xs : List Value) (hown : w.ownsRow base e sz v n xs) (d : Nat) :
    (Builtin.append_ #[t, t] ty #[v, .slice none 0 d]).run P w = .ok v w := by
  rcases hown.2 with ⟨rfl, rfl⟩ | ⟨g, cap, cur, rfl, _, _, hnc, _⟩
  all_goals simp [Builtin.append_, run_underlying ht, sizeOf, typeInfo, Builtin.lenOf, Builtin.firstCells, *, storeCells]

theorem run_append_dss {P : Program} (w : World) (t ty E : TypeId) (z : Value) (hzs : z.cells.size = 3) (ht : P.underlying t = some (.slice E)) (hi : (P.info? E).map (fun i => (i.zero, i.size, i.bytes)) = some (some z, 3, 16))
    (base : Nat) (A : Option Addr) (c : Nat) (xs : List Ds) (hown : OwnD E w base A c xs) (B : Option Addr) (m d : Nat) (ys : List Ds) (hy : Dss w B m d ys)
    (hb : (xs.length + m) * 16 ≤ 140737488351232) (hbase : base ≤ w.heap.size) :
    ∃ A' c' w', (Builtin.append_ #[t, t] ty #[.slice A xs.length c, .slice B m d]).run P w = .ok (.slice A' (xs ++ ys).length c') w' ∧ OwnD E w' base A' c' (xs ++ ys) ∧ w.grownBy w' (Value.slice A xs.length c).ownBlock := by
  obtain ⟨i, hi, hz0, hz1, hz2⟩ := info_parts hi
  obtain ⟨hl, hf, hrow⟩ := hown
  obtain ⟨ly, by_, fy, _⟩ := id hy
  have hff : ∀ z ∈ xs ++ ys, FitD z := fun z hz => (List.mem_append.1 hz).elim (hf z) (fy z)
  cases B with
  | none =>
    have hm : m = 0 := by
      rcases Nat.eq_zero_or_pos m with h | h
      · exact h
      · obtain ⟨b, o, e, _⟩ := hy.2.2.2 h
        cases e
    subst hm
    obtain rfl : ys = [] := List.eq_nil_of_length_eq_zero ly
    refine ⟨A, c, w, ?_, ?_, World.grownBy.refl _ _⟩
    · simpa using run_append_noneD w base t ty E i 3 ht hi _ _ _ hrow d
    · rw [List.append_nil]; exact ⟨hl, hf, hrow⟩
  | some ad =>
    obtain ⟨v', w', hr, h2, h3, _⟩ := run_append_own_at (P := P) w base t ty E i z 3 16 ht hi hz0 hz1 hz2 hzs (by decide) _ _ _ hrow ad m d (cellsD ys) (by rw [cellsD_len, ly]) (hy.src rfl) (cellsD_one ys)
      (by unfold maxLen; omega) (by omega) hbase
    have e : ∃ A' c', v' = .slice A' (xs ++ ys).length c' := by
      rcases h2.2 with ⟨rfl, h0⟩ | ⟨g, cap, cur, rfl, _⟩
      · exact ⟨none, 0, by rw [List.length_append, ly, h0]⟩
      · exact ⟨_, cap, by rw [List.length_append, ly]⟩
    obtain ⟨A', c', rfl⟩ := e
    refine ⟨A', c', w', hr, ⟨by rw [List.length_append]; omega, hff, ?_⟩, h3⟩
    rw [cellsD_app]
    simpa [ly] using h2

/-- append, at the operation: onto a row of descriptors of the call's own, whatever slice of them comes behind. -/
theorem wpList_append_dss {P : Program} (w : World) {ops : Array Oper} {rest : List Oper} {o : Oper} {a : Act} {Q : Exit → Act → World → Prop} (hgd : o.guard = none) (s x : Operand) (t : TypeId)
    (ho : o.op = .call { callee := .builtin .append, args := #[s, x], argTypes := #[t, t] })
    (E : TypeId) (z : Value) (hzs : z.cells.size = 3) (ht : P.underlying t = some (.slice E)) (hi : (P.info? E).map (fun i => (i.zero, i.size, i.bytes)) = some (some z, 3, 16))
    (base : Nat) (A : Option Addr) (c : Nat) (xs : List Ds) (n : Nat) (hn : n = xs.length) (hs : a.eval s = .slice A n c) (hown : OwnD E w base A c xs) (B : Option Addr) (m d : Nat) (ys : List Ds) (hx : a.eval x = .slice B m d) (hy : Dss w B m d ys)
    (hb : (xs.length + m) * 16 ≤ 140737488351232) (hbase : base ≤ w.heap.size)
    (h : ∀ A' c' w', OwnD E w' base A' c' (xs ++ ys) → w.grownBy w' (Value.slice A n c).ownBlock → wpList P ops Q rest (a.put o.dst (.slice A' (xs ++ ys).length c')) w') :
    wpList P ops Q (o :: rest) a w := by
  subst hn
  refine wpList_plain hgd fun K hK => ?_
  obtain ⟨A', c', w', hr, h2, h3⟩ := run_append_dss (P := P) w t o.type E z hzs ht hi base A c xs hown B m d ys hy hb hbase
  unfold Oper.wp execOp
  simp only [ho, resolve, invoke, builtin, Sem.run_bind, Sem.run_pure, Result.andThen_ok, List.map_toArray, List.map_cons, List.map_nil, hs, hx, hr]
  exact hK _ _ (h A' c' w' h2 h3)

abbrev RowD (E : TypeId) (w : World) (base g c : Nat) (l : List Ds) : Prop := OwnD E w base (some ⟨g, 0, none⟩) c l
/-- Three stores: a descriptor at a place of a row. -/
def put3 (w : World) (g i : Nat) (x : Ds) : World := ((w.setCell ⟨g, i * 3, none⟩ (.bool x.1)).setCell ⟨g, i * 3 + 1, none⟩ (.bool x.2.1)).setCell ⟨g, i * 3 + 2, none⟩ (.int .i64 x.2.2)
theorem cellsD_set : ∀ (l : List Ds) (i : Nat) (x : Ds), (((cellsD l).set (i * 3) (.bool x.1)).set (i * 3 + 1) (.bool x.2.1)).set (i * 3 + 2) (.int .i64 x.2.2) = cellsD (l.set i x)
  | [], _, _ => by simp [cellsD]
  | t :: l, 0, x => by simp [cellsD, cells3]
  | t :: l, i + 1, x => by
    have ih := cellsD_set l i x
    have e : cellsD (t :: l) = [Value.bool t.1, .bool t.2.1, .int .i64 t.2.2] ++ cellsD l := by simp [cellsD, cells3]
    have e2 : cellsD ((t :: l).set (i + 1) x) = [Value.bool t.1, .bool t.2.1, .int .i64 t.2.2] ++ cellsD (l.set i x) := by simp [cellsD, cells3]
    rw [e, e2, ← ih, show (i + 1) * 3 = i * 3 + 3 by omega]
    simp
section
variable {E : TypeId} {w : World} {base g c : Nat} {l : List Ds}
theorem OwnD.put (h : RowD E w base g c l) (i : Nat) {x : Ds} (hx : FitD x) : RowD E (put3 w g i x) base g c (l.set i x) := by
  obtain ⟨h1, h2, h3⟩ := h
  refine ⟨by rw [List.length_set]; exact h1, fun y hy => ?_, ?_⟩
  · rcases List.mem_or_eq_of_mem_set hy with h | h
    · exact h2 y h
    · rw [h]; exact hx
  · have a := (h3.stored (i * 3) (.bool x.1)).1
    have b := (a.stored (i * 3 + 1) (.bool x.2.1)).1
    have d := (b.stored (i * 3 + 2) (.int .i64 x.2.2)).1
    rw [cellsD_set] at d
    rw [List.length_set]
    exact d
theorem OwnD.at3 (h : RowD E w base g c l) {i : Nat} (hi : i < l.length) :
    (w.cell? ⟨g, i * 3, none⟩ = some (.bool (dth l i).1) ∧ w.cell? ⟨g, i * 3 + 1, none⟩ = some (.bool (dth l i).2.1) ∧ w.cell? ⟨g, i * 3 + 2, none⟩ = some (.int .i64 (dth l i).2.2)) ∧
      w.frozen? ⟨g, i * 3, none⟩ = false ∧ w.frozen? ⟨g, i * 3 + 1, none⟩ = false ∧ w.frozen? ⟨g, i * 3 + 2, none⟩ = false := by
  obtain ⟨d0, d1, d2⟩ := cellsD_at l hi
  have g0 := h.2.2.cells (g := g) rfl _ _ d0
  have g1 := h.2.2.cells (g := g) rfl _ _ d1
  have g2 := h.2.2.cells (g := g) rfl _ _ d2
  rw [Addr.add_lit] at g0 g1 g2
  rw [Nat.zero_add] at g0 g1 g2
  exact ⟨⟨g0, g1, g2⟩, h.2.2.frozenAt _, h.2.2.frozenAt _, h.2.2.frozenAt _⟩
theorem OwnD.lt (h : RowD E w base g c l) : base ≤ g ∧ g < w.heap.size := h.2.2.lt g rfl
theorem OwnD.cap (h : RowD E w base g c l) : l.length ≤ c ∧ c ≤ 9223372036854775807 := h.dss.2.1
end
theorem below_put3 {B : Nat} {a w : World} (h : Below B a w) {g : Nat} (hg : B ≤ g) (i : Nat) (x : Ds) : Below B a (put3 w g i x) :=
  ((h.setCell (p := ⟨g, i * 3, none⟩) hg _).setCell (p := ⟨g, i * 3 + 1, none⟩) hg _).setCell (p := ⟨g, i * 3 + 2, none⟩) hg _

end Go.Proofs.Ytndbaoiabmldgaa

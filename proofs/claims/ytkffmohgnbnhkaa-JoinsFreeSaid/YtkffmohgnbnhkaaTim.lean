/-
  Plain words and lemmas for walks over timers, over no program: a slice of timers (structs of two numbers) that reads as a list; a row of them of the call's own, and how all are kept.
-/
import Derived.Test.YtkffmohgnbnhkaaOct
import Derived.Test.YtkffmohgnbnhkaaBlk
namespace Go.Proofs.Ytkffmohgnbnhkaa
open Go.RowKit

/-- A timer: its time, and its id. -/
abbrev Tm := Int × Int

def ith (p : List Tm) (j : Nat) : Tm := p.getD j (0, 0)
def jO (p : List Tm) (j : Nat) : Int := (ith p j).1
def jA (p : List Tm) (j : Nat) : Int := (ith p j).2
def FitI (x : Tm) : Prop := Fit x.1 ∧ Fit x.2

theorem ith_get {p : List Tm} {j : Nat} (h : j < p.length) : ith p j = p[j] := by simp [ith, List.getD, h]

/-- The slice whose cells begin at A, of n timers (with room for c), reads as the list p. -/
def Tms (w : World) (A : Option Addr) (n c : Nat) (p : List Tm) : Prop :=
  p.length = n ∧ (n ≤ c ∧ c ≤ 9223372036854775807) ∧ (∀ x ∈ p, FitI x) ∧
    (0 < n → ∃ b o, A = some ⟨b, o, none⟩ ∧ b < w.heap.size ∧ ∀ j, j < n →
      w.cell? ⟨b, o + j * 2, none⟩ = some (.int .i64 (jO p j)) ∧ w.cell? ⟨b, o + j * 2 + 1, none⟩ = some (.int .i64 (jA p j)))

theorem Tms.keep {w w' : World} {A : Option Addr} {n c : Nat} {p : List Tm} (h : Tms w A n c p) (hs : w.heap.size ≤ w'.heap.size)
    (hk : ∀ q : Addr, q.block < w.heap.size → w'.cell? q = w.cell? q) : Tms w' A n c p :=
  ⟨h.1, h.2.1, h.2.2.1, fun hn => by
    obtain ⟨b, o, e, hb, hc⟩ := h.2.2.2 hn
    refine ⟨b, o, e, by omega, fun j hj => ?_⟩
    obtain ⟨h0, h1⟩ := hc j hj
    exact ⟨(hk ⟨b, _, none⟩ hb).trans h0, (hk ⟨b, _, none⟩ hb).trans h1⟩⟩

theorem Tms.below {w w' : World} {A : Option Addr} {n c : Nat} {p : List Tm} (h : Tms w A n c p) (hb : Below w.heap.size w w') : Tms w' A n c p :=
  h.keep hb.size fun _ hp => hb.cell hp

theorem Tms.nil_ (w : World) (A : Option Addr) {c : Nat} (hc : c ≤ 9223372036854775807) : Tms w A 0 c [] := ⟨rfl, by omega, by simp, fun h => by omega⟩

theorem Tms.fit {w : World} {A : Option Addr} {n c : Nat} {p : List Tm} (h : Tms w A n c p) {j : Nat} (hj : j < n) : Fit (jO p j) ∧ Fit (jA p j) := by
  have hl : j < p.length := by rw [h.1]; exact hj
  have := h.2.2.1 _ (List.getElem_mem hl)
  rw [← ith_get hl] at this
  exact this

/-- One round's cells. -/
theorem Tms.at_ {w : World} {A : Option Addr} {n c : Nat} {p : List Tm} (h : Tms w A n c p) {j : Nat} (hj : j < n) : ∃ b o, A = some ⟨b, o, none⟩ ∧ b < w.heap.size ∧
    w.cell? ⟨b, o + j * 2, none⟩ = some (.int .i64 (jO p j)) ∧ w.cell? ⟨b, o + j * 2 + 1, none⟩ = some (.int .i64 (jA p j)) := by
  obtain ⟨b, o, e, hb, hc⟩ := h.2.2.2 (by omega)
  exact ⟨b, o, e, hb, hc j hj⟩

theorem ith_take {p : List Tm} {k j : Nat} (h : j < k) : ith (p.take k) j = ith p j := by simp [ith, List.getD, h]

/-- A beginning of it. -/
theorem Tms.take {w : World} {A : Option Addr} {n c : Nat} {p : List Tm} (h : Tms w A n c p) {k : Nat} (hk : k ≤ n) : Tms w A k c (p.take k) := by
  have h1 := h.1
  have h2 := h.2.1
  refine ⟨by rw [List.length_take]; omega, by omega, fun x hx => h.2.2.1 x (List.mem_of_mem_take hx), fun hn => ?_⟩
  obtain ⟨b, o, e, hb, hc⟩ := h.2.2.2 (by omega)
  refine ⟨b, o, e, hb, fun j hj => ?_⟩
  unfold jO jA
  rw [ith_take hj]
  exact hc j (by omega)

/-- Its cells, one behind the other. -/
def cells2 (x : Tm) : List Value := [.int .i64 x.1, .int .i64 x.2]
def cellsP (p : List Tm) : List Value := p.flatMap cells2

theorem cellsP_len (p : List Tm) : (cellsP p).length = p.length * 2 := by
  induction p with
  | nil => rfl
  | cons x p ih => simp only [cellsP, List.flatMap_cons, List.length_append, List.length_cons] at ih ⊢; rw [ih]; simp [cells2]; omega

theorem cellsP_app (p q : List Tm) : cellsP (p ++ q) = cellsP p ++ cellsP q := by simp [cellsP]

theorem cellsP_one (p : List Tm) : ∀ u ∈ cellsP p, u.oneCell' = true := by
  intro u hu
  obtain ⟨x, _, hx⟩ := List.mem_flatMap.1 hu
  simp only [cells2, List.mem_cons, List.not_mem_nil, or_false] at hx
  rcases hx with rfl | rfl <;> rfl

theorem cellsP_at (p : List Tm) : ∀ {j : Nat}, j < p.length → (cellsP p)[j * 2]? = some (.int .i64 (jO p j)) ∧ (cellsP p)[j * 2 + 1]? = some (.int .i64 (jA p j)) := by
  induction p with
  | nil => intro j hj; simp at hj
  | cons x p ih =>
    intro j hj
    match j with
    | 0 => exact ⟨rfl, rfl⟩
    | j + 1 =>
      have := ih (j := j) (by simpa using hj)
      have e : ∀ k, (cellsP (x :: p))[(j + 1) * 2 + k]? = (cellsP p)[j * 2 + k]? := fun k => by
        rw [show (j + 1) * 2 + k = (cells2 x).length + (j * 2 + k) by simp [cells2]; omega]
        simp only [cellsP, List.flatMap_cons]
        rw [List.getElem?_append_right (by omega)]
        congr 1
        omega
      have e0 := e 0
      simp only [Nat.add_zero] at e0
      rw [e0, e 1]
      exact this

/-- The cells of such a slice, by their number. -/
theorem Tms.src {w : World} {A : Option Addr} {n c : Nat} {p : List Tm} (h : Tms w A n c p) {a : Addr} (e : A = some a) : ∀ j u, (cellsP p)[j]? = some u → w.cell? (a.add j) = some u := by
  intro j u hu
  have hj : j < p.length * 2 := by rw [← cellsP_len]; exact (List.getElem?_eq_some_iff.1 hu).1
  obtain ⟨b, o, e', _, hc⟩ := h.2.2.2 (by have := h.1; omega)
  rw [e'] at e
  injection e with e
  subst e
  rw [Addr.add_lit]
  have hq : j / 2 < p.length := by omega
  obtain ⟨c0, c1⟩ := hc (j / 2) (by have := h.1; omega)
  obtain ⟨d0, d1⟩ := cellsP_at p hq
  have hr : j % 2 = 0 ∨ j % 2 = 1 := by omega
  rcases hr with hr | hr
  · rw [show j = j / 2 * 2 by omega] at hu ⊢
    rw [d0] at hu; rw [← hu]; exact c0
  · rw [show j = j / 2 * 2 + 1 by omega] at hu ⊢
    rw [d1] at hu; rw [← hu, ← Nat.add_assoc]; exact c1

/-- A row of timers that the call has made itself. -/
def OwnT (E : TypeId) (w : World) (base : Nat) (A : Option Addr) (c : Nat) (p : List Tm) : Prop :=
  p.length * 16 ≤ 140737488351232 ∧ (∀ x ∈ p, FitI x) ∧ w.ownsRow base E 2 (.slice A p.length c) p.length (cellsP p)

theorem OwnT.tms {E : TypeId} {w : World} {base : Nat} {A : Option Addr} {c : Nat} {p : List Tm} (h : OwnT E w base A c p) : Tms w A p.length c p := by
  obtain ⟨hl, hf, hown⟩ := h
  refine ⟨rfl, ?_, hf, fun hn => ?_⟩
  · rcases hown.2 with ⟨h1, h2⟩ | ⟨g, cap, cur, e, hb, hh, hc, hm, _⟩
    · injection h1 with _ _ h1
      omega
    · injection e with e1 e2 e3
      subst e3
      unfold maxLen at hm
      omega
  obtain ⟨g, cap, hv, _, hlt⟩ := hown.form hn
  injection hv with hA _ _
  subst hA
  refine ⟨g, 0, rfl, hlt, fun j hj => ?_⟩
  obtain ⟨d0, d1⟩ := cellsP_at p hj
  have g0 := hown.cells (g := g) rfl _ _ d0
  have g1 := hown.cells (g := g) rfl _ _ d1
  rw [Addr.add_lit] at g0 g1
  exact ⟨g0, by rw [Nat.add_assoc]; exact g1⟩

theorem OwnT.below {E : TypeId} {w w' : World} {base : Nat} {A : Option Addr} {c : Nat} {p : List Tm} (h : OwnT E w base A c p) (hb : Below w.heap.size w w') : OwnT E w' base A c p :=
  ⟨h.1, h.2.1, h.2.2.kept (row := none) ⟨hb.os, hb.tape, hb.output, hb.size, fun k hk _ => hb.block k hk⟩ (by cases (Value.slice A p.length c).ownBlock <;> simp)⟩

theorem OwnT.base {E : TypeId} {w : World} {base base' : Nat} {A : Option Addr} {c : Nat} {p : List Tm} (h : OwnT E w base A c p) (hb : base' ≤ base) : OwnT E w base' A c p := by
  obtain ⟨hl, hf, h1, h2⟩ := h
  refine ⟨hl, hf, h1, ?_⟩
  rcases h2 with h2 | ⟨g, cap, cur, e, hg, r⟩
  · exact .inl h2
  · exact .inr ⟨g, cap, cur, e, by omega, r⟩

theorem OwnT.nil_ (E : TypeId) (w : World) (base : Nat) : OwnT E w base none 0 [] := ⟨by simp, by simp, World.ownsRow_nil w base E 2⟩

theorem OwnT.block {E : TypeId} {w : World} {base : Nat} {A : Option Addr} {c : Nat} {p : List Tm} (h : OwnT E w base A c p) {n d : Nat} : ∀ k, (Value.slice A n d).ownBlock = some k → base ≤ k := by
  intro k hk
  refine (h.2.2.lt k ?_).1
  cases A with
  | none => simp [Value.ownBlock] at hk
  | some ad => simpa [Value.ownBlock] using hk

theorem run_append_none {P : Program} (w : World) (base : Nat) (t ty e : TypeId) (i : TypeInfo) (sz : Nat) (ht : P.underlying t = some (.slice e)) (hi : P.info? e = some i)
    (v : Value) (n : Nat) (xs : List Value) (hown : w.ownsRow base e sz v n xs) (d : Nat) :
    (Builtin.append_ #[t, t] ty #[v, .slice none 0 d]).run P w = .ok v w := by
  rcases hown.2 with ⟨rfl, rfl⟩ | ⟨g, cap, cur, rfl, _, _, hnc, _⟩
  all_goals simp [Builtin.append_, run_underlying ht, sizeOf, typeInfo, Builtin.lenOf, Builtin.firstCells, *, storeCells]

theorem run_append_tms {P : Program} (w : World) (t ty E : TypeId) (z : Value) (hzs : z.cells.size = 2) (ht : P.underlying t = some (.slice E)) (hi : (P.info? E).map (fun i => (i.zero, i.size, i.bytes)) = some (some z, 2, 16))
    (base : Nat) (A : Option Addr) (c : Nat) (xs : List Tm) (hown : OwnT E w base A c xs) (B : Option Addr) (m d : Nat) (ys : List Tm) (hy : Tms w B m d ys)
    (hb : (xs.length + m) * 16 ≤ 140737488351232) (hbase : base ≤ w.heap.size) :
    ∃ A' c' w', (Builtin.append_ #[t, t] ty #[.slice A xs.length c, .slice B m d]).run P w = .ok (.slice A' (xs ++ ys).length c') w' ∧ OwnT E w' base A' c' (xs ++ ys) ∧ w.grownBy w' (Value.slice A xs.length c).ownBlock := by
  obtain ⟨i, hi, hz0, hz1, hz2⟩ := info_parts hi
  obtain ⟨hl, hf, hrow⟩ := hown
  obtain ⟨ly, by_, fy, _⟩ := id hy
  have hff : ∀ z ∈ xs ++ ys, FitI z := fun z hz => (List.mem_append.1 hz).elim (hf z) (fy z)
  cases B with
  | none =>
    have hm : m = 0 := by
      rcases Nat.eq_zero_or_pos m with h | h
      · exact h
      · obtain ⟨b, o, e, _⟩ := hy.2.2.2 h
        cases e
    subst hm
    obtain rfl : ys = [] := List.eq_nil_of_length_eq_zero ly
    refine ⟨A, c, w, ?_, ?_, World.grownBy.refl _ _⟩
    · simpa using run_append_none w base t ty E i 2 ht hi _ _ _ hrow d
    · rw [List.append_nil]; exact ⟨hl, hf, hrow⟩
  | some ad =>
    obtain ⟨v', w', hr, h2, h3, _⟩ := run_append_own_at (P := P) w base t ty E i z 2 16 ht hi hz0 hz1 hz2 hzs (by decide) _ _ _ hrow ad m d (cellsP ys) (by rw [cellsP_len, ly]) (hy.src rfl) (cellsP_one ys)
      (by unfold maxLen; omega) (by omega) hbase
    have e : ∃ A' c', v' = .slice A' (xs ++ ys).length c' := by
      rcases h2.2 with ⟨rfl, h0⟩ | ⟨g, cap, cur, rfl, _⟩
      · exact ⟨none, 0, by rw [List.length_append, ly, h0]⟩
      · exact ⟨_, cap, by rw [List.length_append, ly]⟩
    obtain ⟨A', c', rfl⟩ := e
    refine ⟨A', c', w', hr, ⟨by rw [List.length_append]; omega, hff, ?_⟩, h3⟩
    rw [cellsP_app]
    simpa [ly] using h2

/-- append, at the operation: onto a row of timers of the call's own, whatever slice of them comes behind. -/
theorem wpList_append_tms {P : Program} (w : World) {ops : Array Oper} {rest : List Oper} {o : Oper} {a : Act} {Q : Exit → Act → World → Prop} (hgd : o.guard = none) (s x : Operand) (t : TypeId)
    (ho : o.op = .call { callee := .builtin .append, args := #[s, x], argTypes := #[t, t] })
    (E : TypeId) (z : Value) (hzs : z.cells.size = 2) (ht : P.underlying t = some (.slice E)) (hi : (P.info? E).map (fun i => (i.zero, i.size, i.bytes)) = some (some z, 2, 16))
    (base : Nat) (A : Option Addr) (c : Nat) (xs : List Tm) (n : Nat) (hn : n = xs.length) (hs : a.eval s = .slice A n c) (hown : OwnT E w base A c xs) (B : Option Addr) (m d : Nat) (ys : List Tm) (hx : a.eval x = .slice B m d) (hy : Tms w B m d ys)
    (hb : (xs.length + m) * 16 ≤ 140737488351232) (hbase : base ≤ w.heap.size)
    (h : ∀ A' c' w', OwnT E w' base A' c' (xs ++ ys) → w.grownBy w' (Value.slice A n c).ownBlock → wpList P ops Q rest (a.put o.dst (.slice A' (xs ++ ys).length c')) w') :
    wpList P ops Q (o :: rest) a w := by
  subst hn
  refine wpList_plain hgd fun K hK => ?_
  obtain ⟨A', c', w', hr, h2, h3⟩ := run_append_tms (P := P) w t o.type E z hzs ht hi base A c xs hown B m d ys hy hb hbase
  unfold Oper.wp execOp
  simp only [ho, resolve, invoke, builtin, Sem.run_bind, Sem.run_pure, Result.andThen_ok, List.map_toArray, List.map_cons, List.map_nil, hs, hx, hr]
  exact hK _ _ (h A' c' w' h2 h3)

end Go.Proofs.Ytkffmohgnbnhkaa

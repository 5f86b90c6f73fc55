/-
  Plain words and lemmas for walks over programs of tasks, over no program: a slice of instructions (structs of three numbers) that reads as a list; a slice of such slices; rows of both of the call's own, and how all are kept.
-/
import Derived.Test.YtpfnoohcilefhaaOct
import Derived.Test.YtpfnoohcilefhaaBlk
namespace Go.Proofs.Ytpfnoohcilefhaa
open Go.RowKit

/-- An instruction: its kind, and two numbers. -/
abbrev I3 := Int × Int × Int

def ith (p : List I3) (j : Nat) : I3 := p.getD j (0, 0, 0)
def jO (p : List I3) (j : Nat) : Int := (ith p j).1
def jA (p : List I3) (j : Nat) : Int := (ith p j).2.1
def jB (p : List I3) (j : Nat) : Int := (ith p j).2.2
def pth (l : List (List I3)) (j : Nat) : List I3 := l.getD j []
def FitI (x : I3) : Prop := Fit x.1 ∧ Fit x.2.1 ∧ Fit x.2.2

theorem ith_get {p : List I3} {j : Nat} (h : j < p.length) : ith p j = p[j] := by simp [ith, List.getD, h]
theorem pth_get {l : List (List I3)} {j : Nat} (h : j < l.length) : pth l j = l[j] := by simp [pth, List.getD, h]

/-- The slice whose cells begin at A, of n instructions (with room for c), reads as the list p. -/
def Prog (w : World) (A : Option Addr) (n c : Nat) (p : List I3) : Prop :=
  p.length = n ∧ (n ≤ c ∧ c ≤ 9223372036854775807) ∧ (∀ x ∈ p, FitI x) ∧
    (0 < n → ∃ b o, A = some ⟨b, o, none⟩ ∧ b < w.heap.size ∧ ∀ j, j < n →
      w.cell? ⟨b, o + j * 3, none⟩ = some (.int .i64 (jO p j)) ∧ w.cell? ⟨b, o + j * 3 + 1, none⟩ = some (.int .i64 (jA p j)) ∧ w.cell? ⟨b, o + j * 3 + 2, none⟩ = some (.int .i64 (jB p j)))

theorem Prog.keep {w w' : World} {A : Option Addr} {n c : Nat} {p : List I3} (h : Prog w A n c p) (hs : w.heap.size ≤ w'.heap.size)
    (hk : ∀ q : Addr, q.block < w.heap.size → w'.cell? q = w.cell? q) : Prog w' A n c p :=
  ⟨h.1, h.2.1, h.2.2.1, fun hn => by
    obtain ⟨b, o, e, hb, hc⟩ := h.2.2.2 hn
    refine ⟨b, o, e, by omega, fun j hj => ?_⟩
    obtain ⟨h0, h1, h2⟩ := hc j hj
    exact ⟨(hk ⟨b, _, none⟩ hb).trans h0, (hk ⟨b, _, none⟩ hb).trans h1, (hk ⟨b, _, none⟩ hb).trans h2⟩⟩

theorem Prog.below {w w' : World} {A : Option Addr} {n c : Nat} {p : List I3} (h : Prog w A n c p) (hb : Below w.heap.size w w') : Prog w' A n c p :=
  h.keep hb.size fun _ hp => hb.cell hp

theorem Prog.nil_ (w : World) (A : Option Addr) {c : Nat} (hc : c ≤ 9223372036854775807) : Prog w A 0 c [] := ⟨rfl, by omega, by simp, fun h => by omega⟩

theorem Prog.fit {w : World} {A : Option Addr} {n c : Nat} {p : List I3} (h : Prog w A n c p) {j : Nat} (hj : j < n) : Fit (jO p j) ∧ Fit (jA p j) ∧ Fit (jB p j) := by
  have hl : j < p.length := by rw [h.1]; exact hj
  have := h.2.2.1 _ (List.getElem_mem hl)
  rw [← ith_get hl] at this
  exact this

/-- One round's cells. -/
theorem Prog.at_ {w : World} {A : Option Addr} {n c : Nat} {p : List I3} (h : Prog w A n c p) {j : Nat} (hj : j < n) : ∃ b o, A = some ⟨b, o, none⟩ ∧ b < w.heap.size ∧
    w.cell? ⟨b, o + j * 3, none⟩ = some (.int .i64 (jO p j)) ∧ w.cell? ⟨b, o + j * 3 + 1, none⟩ = some (.int .i64 (jA p j)) ∧ w.cell? ⟨b, o + j * 3 + 2, none⟩ = some (.int .i64 (jB p j)) := by
  obtain ⟨b, o, e, hb, hc⟩ := h.2.2.2 (by omega)
  exact ⟨b, o, e, hb, hc j hj⟩

theorem ith_take {p : List I3} {k j : Nat} (h : j < k) : ith (p.take k) j = ith p j := by simp [ith, List.getD, h]

/-- A beginning of it. -/
theorem Prog.take {w : World} {A : Option Addr} {n c : Nat} {p : List I3} (h : Prog w A n c p) {k : Nat} (hk : k ≤ n) : Prog w A k c (p.take k) := by
  have h1 := h.1
  have h2 := h.2.1
  refine ⟨by rw [List.length_take]; omega, by omega, fun x hx => h.2.2.1 x (List.mem_of_mem_take hx), fun hn => ?_⟩
  obtain ⟨b, o, e, hb, hc⟩ := h.2.2.2 (by omega)
  refine ⟨b, o, e, hb, fun j hj => ?_⟩
  unfold jO jA jB
  rw [ith_take hj]
  exact hc j (by omega)

/-- Its cells, one behind the other. -/
def cells3 (x : I3) : List Value := [.int .i64 x.1, .int .i64 x.2.1, .int .i64 x.2.2]
def cellsP (p : List I3) : List Value := p.flatMap cells3

theorem cellsP_len (p : List I3) : (cellsP p).length = p.length * 3 := by
  induction p with
  | nil => rfl
  | cons x p ih => simp only [cellsP, List.flatMap_cons, List.length_append, List.length_cons] at ih ⊢; rw [ih]; simp [cells3]; omega

theorem cellsP_app (p q : List I3) : cellsP (p ++ q) = cellsP p ++ cellsP q := by simp [cellsP]

theorem cellsP_one (p : List I3) : ∀ u ∈ cellsP p, u.oneCell' = true := by
  intro u hu
  obtain ⟨x, _, hx⟩ := List.mem_flatMap.1 hu
  simp only [cells3, List.mem_cons, List.not_mem_nil, or_false] at hx
  rcases hx with rfl | rfl | rfl <;> rfl

theorem cellsP_at (p : List I3) : ∀ {j : Nat}, j < p.length → (cellsP p)[j * 3]? = some (.int .i64 (jO p j)) ∧ (cellsP p)[j * 3 + 1]? = some (.int .i64 (jA p j)) ∧ (cellsP p)[j * 3 + 2]? = some (.int .i64 (jB p j)) := by
  induction p with
  | nil => intro j hj; simp at hj
  | cons x p ih =>
    intro j hj
    match j with
    | 0 => exact ⟨rfl, rfl, rfl⟩
    | j + 1 =>
      have := ih (j := j) (by simpa using hj)
      have e : ∀ k, (cellsP (x :: p))[(j + 1) * 3 + k]? = (cellsP p)[j * 3 + k]? := fun k => by
        rw [show (j + 1) * 3 + k = (cells3 x).length + (j * 3 + k) by simp [cells3]; omega]
        simp only [cellsP, List.flatMap_cons]
        rw [List.getElem?_append_right (by omega)]
        congr 1
        omega
      have e0 := e 0
      simp only [Nat.add_zero] at e0
      rw [e0, e 1, e 2]
      exact this

/-- The cells of such a slice, by their number. -/
theorem Prog.src {w : World} {A : Option Addr} {n c : Nat} {p : List I3} (h : Prog w A n c p) {a : Addr} (e : A = some a) : ∀ j u, (cellsP p)[j]? = some u → w.cell? (a.add j) = some u := by
  intro j u hu
  have hj : j < p.length * 3 := by rw [← cellsP_len]; exact (List.getElem?_eq_some_iff.1 hu).1
  obtain ⟨b, o, e', _, hc⟩ := h.2.2.2 (by have := h.1; omega)
  rw [e'] at e
  injection e with e
  subst e
  rw [Addr.add_lit]
  have hq : j / 3 < p.length := by omega
  obtain ⟨c0, c1, c2⟩ := hc (j / 3) (by have := h.1; omega)
  obtain ⟨d0, d1, d2⟩ := cellsP_at p hq
  have hr : j % 3 = 0 ∨ j % 3 = 1 ∨ j % 3 = 2 := by omega
  rcases hr with hr | hr | hr
  · rw [show j = j / 3 * 3 by omega] at hu ⊢
    rw [d0] at hu; rw [← hu]; exact c0
  · rw [show j = j / 3 * 3 + 1 by omega] at hu ⊢
    rw [d1] at hu; rw [← hu, ← Nat.add_assoc]; exact c1
  · rw [show j = j / 3 * 3 + 2 by omega] at hu ⊢
    rw [d2] at hu; rw [← hu, ← Nat.add_assoc]; exact c2

/-- A row of instructions that the call has made itself. -/
def OwnP (E : TypeId) (w : World) (base : Nat) (A : Option Addr) (c : Nat) (p : List I3) : Prop :=
  p.length * 24 ≤ 140737488351232 ∧ (∀ x ∈ p, FitI x) ∧ w.ownsRow base E 3 (.slice A p.length c) p.length (cellsP p)

theorem OwnP.prog {E : TypeId} {w : World} {base : Nat} {A : Option Addr} {c : Nat} {p : List I3} (h : OwnP E w base A c p) : Prog w A p.length c p := by
  obtain ⟨hl, hf, hown⟩ := h
  refine ⟨rfl, ?_, hf, fun hn => ?_⟩
  · rcases hown.2 with ⟨h1, h2⟩ | ⟨g, cap, cur, e, hb, hh, hc, hm, _⟩
    · injection h1 with _ _ h1
      omega
    · injection e with e1 e2 e3
      subst e3
      unfold maxLen at hm
      omega
  obtain ⟨g, cap, hv, _, hlt⟩ := hown.form hn
  injection hv with hA _ _
  subst hA
  refine ⟨g, 0, rfl, hlt, fun j hj => ?_⟩
  obtain ⟨d0, d1, d2⟩ := cellsP_at p hj
  have g0 := hown.cells (g := g) rfl _ _ d0
  have g1 := hown.cells (g := g) rfl _ _ d1
  have g2 := hown.cells (g := g) rfl _ _ d2
  rw [Addr.add_lit] at g0 g1 g2
  exact ⟨g0, by rw [Nat.add_assoc]; exact g1, by rw [Nat.add_assoc]; exact g2⟩

theorem OwnP.below {E : TypeId} {w w' : World} {base : Nat} {A : Option Addr} {c : Nat} {p : List I3} (h : OwnP E w base A c p) (hb : Below w.heap.size w w') : OwnP E w' base A c p :=
  ⟨h.1, h.2.1, h.2.2.kept (row := none) ⟨hb.os, hb.tape, hb.output, hb.size, fun k hk _ => hb.block k hk⟩ (by cases (Value.slice A p.length c).ownBlock <;> simp)⟩

theorem OwnP.base {E : TypeId} {w : World} {base base' : Nat} {A : Option Addr} {c : Nat} {p : List I3} (h : OwnP E w base A c p) (hb : base' ≤ base) : OwnP E w base' A c p := by
  obtain ⟨hl, hf, h1, h2⟩ := h
  refine ⟨hl, hf, h1, ?_⟩
  rcases h2 with h2 | ⟨g, cap, cur, e, hg, r⟩
  · exact .inl h2
  · exact .inr ⟨g, cap, cur, e, by omega, r⟩

theorem OwnP.nil_ (E : TypeId) (w : World) (base : Nat) : OwnP E w base none 0 [] := ⟨by simp, by simp, World.ownsRow_nil w base E 3⟩

theorem OwnP.block {E : TypeId} {w : World} {base : Nat} {A : Option Addr} {c : Nat} {p : List I3} (h : OwnP E w base A c p) {n d : Nat} : ∀ k, (Value.slice A n d).ownBlock = some k → base ≤ k := by
  intro k hk
  refine (h.2.2.lt k ?_).1
  cases A with
  | none => simp [Value.ownBlock] at hk
  | some ad => simpa [Value.ownBlock] using hk

theorem run_append_none {P : Program} (w : World) (base : Nat) (t ty e : TypeId) (i : TypeInfo) (sz : Nat) (ht : P.underlying t = some (.slice e)) (hi : P.info? e = some i)
    (v : Value) (n : Nat) (xs : List Value) (hown : w.ownsRow base e sz v n xs) (d : Nat) :
    (Builtin.append_ #[t, t] ty #[v, .slice none 0 d]).run P w = .ok v w := by
  rcases hown.2 with ⟨rfl, rfl⟩ | ⟨g, cap, cur, rfl, _, _, hnc, _⟩
  all_goals simp [Builtin.append_, run_underlying ht, sizeOf, typeInfo, Builtin.lenOf, Builtin.firstCells, *, storeCells]

theorem run_append_prog {P : Program} (w : World) (t ty E : TypeId) (z : Value) (hzs : z.cells.size = 3) (ht : P.underlying t = some (.slice E)) (hi : (P.info? E).map (fun i => (i.zero, i.size, i.bytes)) = some (some z, 3, 24))
    (base : Nat) (A : Option Addr) (c : Nat) (xs : List I3) (hown : OwnP E w base A c xs) (B : Option Addr) (m d : Nat) (ys : List I3) (hy : Prog w B m d ys)
    (hb : (xs.length + m) * 24 ≤ 140737488351232) (hbase : base ≤ w.heap.size) :
    ∃ A' c' w', (Builtin.append_ #[t, t] ty #[.slice A xs.length c, .slice B m d]).run P w = .ok (.slice A' (xs ++ ys).length c') w' ∧ OwnP E w' base A' c' (xs ++ ys) ∧ w.grownBy w' (Value.slice A xs.length c).ownBlock := by
  obtain ⟨i, hi, hz0, hz1, hz2⟩ := info_parts hi
  obtain ⟨hl, hf, hrow⟩ := hown
  obtain ⟨ly, by_, fy, _⟩ := id hy
  have hff : ∀ z ∈ xs ++ ys, FitI z := fun z hz => (List.mem_append.1 hz).elim (hf z) (fy z)
  cases B with
  | none =>
    have hm : m = 0 := by
      rcases Nat.eq_zero_or_pos m with h | h
      · exact h
      · obtain ⟨b, o, e, _⟩ := hy.2.2.2 h
        cases e
    subst hm
    obtain rfl : ys = [] := List.eq_nil_of_length_eq_zero ly
    refine ⟨A, c, w, ?_, ?_, World.grownBy.refl _ _⟩
    · simpa using run_append_none w base t ty E i 3 ht hi _ _ _ hrow d
    · rw [List.append_nil]; exact ⟨hl, hf, hrow⟩
  | some ad =>
    obtain ⟨v', w', hr, h2, h3, _⟩ := run_append_own_at (P := P) w base t ty E i z 3 24 ht hi hz0 hz1 hz2 hzs (by decide) _ _ _ hrow ad m d (cellsP ys) (by rw [cellsP_len, ly]) (hy.src rfl) (cellsP_one ys)
      (by unfold maxLen; omega) (by omega) hbase
    have e : ∃ A' c', v' = .slice A' (xs ++ ys).length c' := by
      rcases h2.2 with ⟨rfl, h0⟩ | ⟨g, cap, cur, rfl, _⟩
      · exact ⟨none, 0, by rw [List.length_append, ly, h0]⟩
      · exact ⟨_, cap, by rw [List.length_append, ly]⟩
    obtain ⟨A', c', rfl⟩ := e
    refine ⟨A', c', w', hr, ⟨by rw [List.length_append]; omega, hff, ?_⟩, h3⟩
    rw [cellsP_app]
    simpa [ly] using h2

/-- append, at the operation: onto a row of instructions of the call's own, whatever slice of them comes behind. -/
theorem wpList_append_prog {P : Program} (w : World) {ops : Array Oper} {rest : List Oper} {o : Oper} {a : Act} {Q : Exit → Act → World → Prop} (hgd : o.guard = none) (s x : Operand) (t : TypeId)
    (ho : o.op = .call { callee := .builtin .append, args := #[s, x], argTypes := #[t, t] })
    (E : TypeId) (z : Value) (hzs : z.cells.size = 3) (ht : P.underlying t = some (.slice E)) (hi : (P.info? E).map (fun i => (i.zero, i.size, i.bytes)) = some (some z, 3, 24))
    (base : Nat) (A : Option Addr) (c : Nat) (xs : List I3) (n : Nat) (hn : n = xs.length) (hs : a.eval s = .slice A n c) (hown : OwnP E w base A c xs) (B : Option Addr) (m d : Nat) (ys : List I3) (hx : a.eval x = .slice B m d) (hy : Prog w B m d ys)
    (hb : (xs.length + m) * 24 ≤ 140737488351232) (hbase : base ≤ w.heap.size)
    (h : ∀ A' c' w', OwnP E w' base A' c' (xs ++ ys) → w.grownBy w' (Value.slice A n c).ownBlock → wpList P ops Q rest (a.put o.dst (.slice A' (xs ++ ys).length c')) w') :
    wpList P ops Q (o :: rest) a w := by
  subst hn
  refine wpList_plain hgd fun K hK => ?_
  obtain ⟨A', c', w', hr, h2, h3⟩ := run_append_prog (P := P) w t o.type E z hzs ht hi base A c xs hown B m d ys hy hb hbase
  unfold Oper.wp execOp
  simp only [ho, resolve, invoke, builtin, Sem.run_bind, Sem.run_pure, Result.andThen_ok, List.map_toArray, List.map_cons, List.map_nil, hs, hx, hr]
  exact hK _ _ (h A' c' w' h2 h3)

/-! ### Slices of such slices -/

abbrev Hd := Option Addr × Nat × Nat
def hth (hs : List Hd) (j : Nat) : Hd := hs.getD j (none, 0, 0)
def hv (h : Hd) : Value := .slice h.1 h.2.1 h.2.2
theorem hth_get {hs : List Hd} {j : Nat} (h : j < hs.length) : hth hs j = hs[j] := by simp [hth, List.getD, h]

/-- These slices read as these programs. -/
def Rds (w : World) (hs : List Hd) (l : List (List I3)) : Prop := hs.length = l.length ∧ ∀ j, j < l.length → Prog w (hth hs j).1 (hth hs j).2.1 (hth hs j).2.2 (pth l j)

theorem Rds.below {w w' : World} {hs : List Hd} {l : List (List I3)} (h : Rds w hs l) (hb : Below w.heap.size w w') : Rds w' hs l := ⟨h.1, fun j hj => (h.2 j hj).below hb⟩

/-- The slice of n slices whose cells begin at A reads as these programs. -/
def Prgs (w : World) (A : Option Addr) (n : Nat) (l : List (List I3)) : Prop :=
  l.length = n ∧ n ≤ 9223372036854775807 ∧ ∃ hs, Rds w hs l ∧ (0 < n → ∃ b o, A = some ⟨b, o, none⟩ ∧ b < w.heap.size ∧ ∀ j, j < n → w.cell? ⟨b, o + j, none⟩ = some (hv (hth hs j)))

theorem Prgs.below {w w' : World} {A : Option Addr} {n : Nat} {l : List (List I3)} (h : Prgs w A n l) (hb : Below w.heap.size w w') : Prgs w' A n l := by
  obtain ⟨h1, h2, hs, hr, hc⟩ := h
  refine ⟨h1, h2, hs, hr.below hb, fun hn => ?_⟩
  obtain ⟨b, o, e, hlt, hcell⟩ := hc hn
  exact ⟨b, o, e, Nat.lt_of_lt_of_le hlt hb.size, fun j hj => (hb.cell (p := ⟨b, o + j, none⟩) hlt).trans (hcell j hj)⟩

theorem Prgs.nil_ (w : World) (A : Option Addr) : Prgs w A 0 [] := ⟨rfl, by omega, [], ⟨rfl, fun j hj => by simp at hj⟩, fun h => by omega⟩

/-- One round's cell, and what it reads as. -/
theorem Prgs.at_ {w : World} {A : Option Addr} {n : Nat} {l : List (List I3)} (h : Prgs w A n l) {j : Nat} (hj : j < n) : ∃ b o B m c, A = some ⟨b, o, none⟩ ∧ b < w.heap.size ∧
    w.cell? ⟨b, o + j, none⟩ = some (.slice B m c) ∧ Prog w B m c (pth l j) := by
  obtain ⟨h1, _, hs, hr, hc⟩ := h
  obtain ⟨b, o, e, hlt, hcell⟩ := hc (by omega)
  exact ⟨b, o, _, _, _, e, hlt, hcell j hj, hr.2 j (by omega)⟩

/-- A row of such slices that the call has made itself. -/
def OwnS (E : TypeId) (w : World) (base : Nat) (A : Option Addr) (c : Nat) (l : List (List I3)) : Prop :=
  l.length * 24 ≤ 140737488351232 ∧ ∃ hs, Rds w hs l ∧ w.ownsRow base E 1 (.slice A l.length c) l.length (hs.map hv)

theorem OwnS.prgs {E : TypeId} {w : World} {base : Nat} {A : Option Addr} {c : Nat} {l : List (List I3)} (h : OwnS E w base A c l) : Prgs w A l.length l := by
  obtain ⟨hl, hs, hr, hown⟩ := h
  refine ⟨rfl, by omega, hs, hr, fun hn => ?_⟩
  obtain ⟨g, cap, hv', _, hlt⟩ := hown.form hn
  injection hv' with hA _ _
  subst hA
  refine ⟨g, 0, rfl, hlt, fun j hj => ?_⟩
  have hjh : j < hs.length := by rw [hr.1]; exact hj
  have hc := hown.cells (g := g) rfl j (hv (hth hs j)) (by simp [List.getElem?_eq_getElem hjh, hth_get hjh])
  rw [Addr.add_lit] at hc
  exact hc

theorem OwnS.below {E : TypeId} {w w' : World} {base : Nat} {A : Option Addr} {c : Nat} {l : List (List I3)} (h : OwnS E w base A c l) (hb : Below w.heap.size w w') : OwnS E w' base A c l := by
  obtain ⟨hl, hs, hr, hown⟩ := h
  exact ⟨hl, hs, hr.below hb, hown.kept (row := none) ⟨hb.os, hb.tape, hb.output, hb.size, fun k hk _ => hb.block k hk⟩ (by cases (Value.slice A l.length c).ownBlock <;> simp)⟩

theorem OwnS.nil_ (E : TypeId) (w : World) (base : Nat) : OwnS E w base none 0 [] := ⟨by simp, [], ⟨rfl, fun j hj => by simp at hj⟩, World.ownsRow_nil w base E 1⟩

theorem OwnS.base {E : TypeId} {w : World} {base base' : Nat} {A : Option Addr} {c : Nat} {l : List (List I3)} (h : OwnS E w base A c l) (hb : base' ≤ base) : OwnS E w base' A c l := by
  obtain ⟨hl, hs, hr, h1, h2⟩ := h
  refine ⟨hl, hs, hr, h1, ?_⟩
  rcases h2 with h2 | ⟨g, cap, cur, e, hg, r⟩
  · exact .inl h2
  · exact .inr ⟨g, cap, cur, e, by omega, r⟩

theorem ret_err {a b : Int} (h : a = b) : Ending.returned (.int .i64 a) = .returned (.int .i64 b) := by rw [h]

end Go.Proofs.Ytpfnoohcilefhaa

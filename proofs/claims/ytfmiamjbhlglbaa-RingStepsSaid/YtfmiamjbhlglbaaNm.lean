/-
  The program's map of accesses (layer 7), as a function: made in whatever order, looked up.
-/
import Derived.Test.YtfmiamjbhlglbaaDa
import Derived.Test.YtfmiamjbhlglbaaIns
import Derived.Maps.OwnSet
import Derived.Maps.Views
import Derived.DeepKeys4
namespace Go.Proofs.Ytfmiamjbhlglbaa
open Go.RowKit Go.Maps

def ptKey (k p : Int) : Lit := .string (keyBytes [.int .i64 k, .int .i64 p])
theorem Try.ptType : Try.prog.keyType 72 = true := by kernel_rfl
theorem Try.laidAll : laidOutB Try.prog = true := by kernel_rfl
theorem Try.ptRow : (72 : TypeId) < Try.prog.types.size := of_decide_eq_true (by kernel_rfl)
theorem Try.ptWide : (match Try.prog.underlying 72 with | some (.array _ _) | some (.struct _) => true | _ => false) = true := by rw [Try.underlying72]
theorem Try.lawPt : Keyed Try.prog 72 := Keyed.of_law (deep_law_laid Try.laidAll (m := 2) (by omega) Try.ptRow (by kernel_rfl) Try.ptWide)
theorem keyPt {k p : Int} (fk : Fit k) (fp : Fit p) : keyOf Try.prog 72 (.agg #[.int .i64 k, .int .i64 p]) = some (ptKey k p) := by
  obtain ⟨m, hs⟩ : ∃ m, Try.prog.types.size = m + 1 + 1 := ⟨Try.prog.types.size - 2, by kernel_rfl⟩
  have one : ∀ (d : Nat) (x : Int), Fit x → Try.prog.keyLits (d + 1) 3 [.int .i64 x] = some [.int .i64 x] := by
    intro d x fx
    unfold Program.keyLits
    simp [Try.underlying3, wf_of_fit fx]
  have c1 : Try.prog.cellsOf 72 = 2 := by kernel_rfl
  have c2 : Try.prog.cellsOf 3 = 1 := by kernel_rfl
  unfold keyOf
  simp only [Try.underlying72]
  rw [if_pos (by simp [Try.ptType, Value.formed, Try.underlying72, c1]), hs]
  rw [show Try.prog.keyLits (m + 1 + 1 + 1) 72 (Value.agg #[.int .i64 k, .int .i64 p]).cells.toList = some [.int .i64 k, .int .i64 p] from ?_]
  · rfl
  unfold Program.keyLits
  simp only [Try.underlying72, Value.cells]
  rw [if_pos (by simp [c1])]
  simp [c2, one _ _ fk, one _ _ fp]

/-- A function's number, as a datum. -/
def fnElem (v : Value) : Option (DataW Unit × List MemPlace) :=
  match v with
  | .func (.func i) a b => if a = #[] ∧ b = #[] then some (.lit (.int .i64 (i : Nat)), []) else none
  | _ => none
theorem fnElem_inv {v : Value} {z : DataW Unit × List MemPlace} (h : fnElem v = some z) : ∃ i : Nat, v = .func (.func i) #[] #[] ∧ z = (.lit (.int .i64 i), []) := by
  unfold fnElem at h
  split at h
  · split at h
    · rename_i hc
      obtain ⟨rfl, rfl⟩ := hc
      injection h with h
      exact ⟨_, rfl, h.symm⟩
    · cases h
  · cases h

def readF (o : Option Nat) (zd : DataW Unit) : DataW Unit := match o with | none => zd | some i => .lit (.int .i64 i)
/-- In block b lies a map from points to functions that reads as f (n entries at the most). -/
def GMap (w : World) (b n : Nat) (f : Int → Int → Option Nat) : Prop :=
  ∃ D : DataW Unit, w.ownsMap Try.prog 72 fnElem b n D ∧ ∀ k p, Fit k → Fit p → ∀ zd, D.atKey (ptKey k p) zd = readF (f k p) zd

section
variable {w w' : World} {b n : Nat} {f : Int → Int → Option Nat}
theorem GMap.made (w : World) : GMap (w.alloc (.map #[] 0)) w.heap.size 0 fun _ _ => none :=
  ⟨.map [], World.ownsMap_made w _ _ _, fun _ _ _ _ _ => rfl⟩
theorem GMap.below (h : GMap w b n f) (hb : Below w.heap.size w w') : GMap w' b n f := by
  obtain ⟨D, hD, hf⟩ := h
  exact ⟨D, hD.kept (row := none) (Below.gb hb) (by simp), hf⟩
theorem GMap.lt (h : GMap w b n f) : b < w.heap.size := by obtain ⟨D, hD, _⟩ := h; exact hD.lt

theorem GMap.update (h : GMap w b n f) {k p : Int} (fk : Fit k) (fp : Fit p) (i : Nat) (hn : n < 1000) :
    ∃ w', (Instr.mapUpdate 69 (.map (some b)) (.agg #[.int .i64 k, .int .i64 p]) (.func (.func i) #[] #[])).run Try.prog w = .ok () w' ∧ GMap w' b (n + 1) (fun x y => if x = k ∧ y = p then some i else f x y) ∧ w.grownBy w' (some b) := by
  obtain ⟨D, hD, hf⟩ := h
  obtain ⟨w', hrun, h1, h2⟩ := hD.update Try.lawPt Try.underlying69 (by unfold maxLen; omega) (keyPt fk fp) (val := .func (.func i) #[] #[]) (d := .lit (.int .i64 (i : Nat))) (ps := []) (by simp [fnElem])
  refine ⟨w', hrun, ⟨_, h1, fun x y fx fy zd => ?_⟩, h2⟩
  by_cases e : x = k ∧ y = p
  · obtain ⟨rfl, rfl⟩ := e
    rw [atKey_put_same hD.isMap (by trivial)]; simp [readF]
  · rw [atKey_put_other ?_, hf x y fx fy]
    · show readF (f x y) zd = readF (if x = k ∧ y = p then some i else f x y) zd
      rw [if_neg e]
    intro e'
    have h3 := keyPt fx fy
    rw [e'] at h3
    have h4 := Try.lawPt.inj h3 (keyPt fk fp)
    simp at h4
    exact e h4

theorem GMap.lookup (h : GMap w b n f) {k p : Int} (fk : Fit k) (fp : Fit p) : (Instr.lookup 69 (.map (some b)) (.agg #[.int .i64 k, .int .i64 p]) true).run Try.prog w =
    .ok (match f k p with | none => .tuple #[.nilFunc, .bool false] | some i => .tuple #[.func (.func i) #[] #[], .bool true]) w := by
  obtain ⟨D, ⟨es, clock, hb, F, hs, rfl⟩, hf⟩ := h
  have hz : (zeroValue 52).run Try.prog w = .ok .nilFunc w := by kernel_rfl
  rcases fit_look true Try.lawPt Try.underlying69 hz hb F (keyPt fk fp) with ⟨hrun, _, hat⟩ | ⟨e0, y, _, _, hrun, hRv, hat, _⟩
  · cases hc : f k p with
    | none => rw [hrun]; rfl
    | some i =>
      have h1 := hat (.lit (.bool true))
      rw [hf k p fk fp, hc] at h1
      simp [readF] at h1
  · obtain ⟨i, hv, hy⟩ := fnElem_inv hRv
    cases hc : f k p with
    | none =>
      have h1 := hat (.lit (.bool true))
      rw [hf k p fk fp, hc, hy] at h1
      simp [readF] at h1
    | some j =>
      have h1 := hat (.lit (.bool true))
      rw [hf k p fk fp, hc, hy] at h1
      simp [readF] at h1
      rw [hrun, hv]
      have : i = j := by omega
      subst this
      rfl
end

/-- The table of accesses: the operation that inserts, the function. -/
def opOf (k p : Int) : Option (Nat × Nat) :=
  if k = 1 ∧ p = 0 then some (2, 39)
  else if k = 1 ∧ p = 1 then some (4, 40)
  else if k = 1 ∧ p = 2 then some (6, 41)
  else if k = 1 ∧ p = 3 then some (8, 42)
  else if k = 2 ∧ p = 0 then some (10, 43)
  else if k = 2 ∧ p = 1 then some (12, 44)
  else if k = 2 ∧ p = 2 then some (14, 45)
  else if k = 2 ∧ p = 3 then some (16, 46)
  else if k = 2 ∧ p = 4 then some (18, 47)
  else if k = 2 ∧ p = 5 then some (20, 48)
  else if k = 2 ∧ p = 6 then some (22, 49)
  else if k = 3 ∧ p = 0 then some (24, 39)
  else if k = 3 ∧ p = 1 then some (26, 50)
  else if k = 3 ∧ p = 2 then some (28, 51)
  else if k = 3 ∧ p = 3 then some (30, 52)
  else none
def tblF (k p : Int) : Option Nat := (opOf k p).map (·.2)
/-- .. of those that are listed. -/
def tblL (L : Array Bool) (k p : Int) : Option Nat := match opOf k p with | none => none | some (i, fn) => if L.getD i false then some fn else none
def acsK : List Nat := [2, 4, 6, 8, 10, 12, 14, 16, 18, 20, 22, 24, 26, 28, 30]
theorem opOf_mem {x y : Int} {j fn : Nat} (h : opOf x y = some (j, fn)) : j ∈ acsK := by
  unfold opOf at h
  by_cases c0 : x = 1 ∧ y = 0
  · rw [if_pos c0] at h
    have h9 := (Prod.mk.inj (Option.some.inj h)).1
    subst h9; decide
  rw [if_neg c0] at h
  by_cases c1 : x = 1 ∧ y = 1
  · rw [if_pos c1] at h
    have h9 := (Prod.mk.inj (Option.some.inj h)).1
    subst h9; decide
  rw [if_neg c1] at h
  by_cases c2 : x = 1 ∧ y = 2
  · rw [if_pos c2] at h
    have h9 := (Prod.mk.inj (Option.some.inj h)).1
    subst h9; decide
  rw [if_neg c2] at h
  by_cases c3 : x = 1 ∧ y = 3
  · rw [if_pos c3] at h
    have h9 := (Prod.mk.inj (Option.some.inj h)).1
    subst h9; decide
  rw [if_neg c3] at h
  by_cases c4 : x = 2 ∧ y = 0
  · rw [if_pos c4] at h
    have h9 := (Prod.mk.inj (Option.some.inj h)).1
    subst h9; decide
  rw [if_neg c4] at h
  by_cases c5 : x = 2 ∧ y = 1
  · rw [if_pos c5] at h
    have h9 := (Prod.mk.inj (Option.some.inj h)).1
    subst h9; decide
  rw [if_neg c5] at h
  by_cases c6 : x = 2 ∧ y = 2
  · rw [if_pos c6] at h
    have h9 := (Prod.mk.inj (Option.some.inj h)).1
    subst h9; decide
  rw [if_neg c6] at h
  by_cases c7 : x = 2 ∧ y = 3
  · rw [if_pos c7] at h
    have h9 := (Prod.mk.inj (Option.some.inj h)).1
    subst h9; decide
  rw [if_neg c7] at h
  by_cases c8 : x = 2 ∧ y = 4
  · rw [if_pos c8] at h
    have h9 := (Prod.mk.inj (Option.some.inj h)).1
    subst h9; decide
  rw [if_neg c8] at h
  by_cases c9 : x = 2 ∧ y = 5
  · rw [if_pos c9] at h
    have h9 := (Prod.mk.inj (Option.some.inj h)).1
    subst h9; decide
  rw [if_neg c9] at h
  by_cases c10 : x = 2 ∧ y = 6
  · rw [if_pos c10] at h
    have h9 := (Prod.mk.inj (Option.some.inj h)).1
    subst h9; decide
  rw [if_neg c10] at h
  by_cases c11 : x = 3 ∧ y = 0
  · rw [if_pos c11] at h
    have h9 := (Prod.mk.inj (Option.some.inj h)).1
    subst h9; decide
  rw [if_neg c11] at h
  by_cases c12 : x = 3 ∧ y = 1
  · rw [if_pos c12] at h
    have h9 := (Prod.mk.inj (Option.some.inj h)).1
    subst h9; decide
  rw [if_neg c12] at h
  by_cases c13 : x = 3 ∧ y = 2
  · rw [if_pos c13] at h
    have h9 := (Prod.mk.inj (Option.some.inj h)).1
    subst h9; decide
  rw [if_neg c13] at h
  by_cases c14 : x = 3 ∧ y = 3
  · rw [if_pos c14] at h
    have h9 := (Prod.mk.inj (Option.some.inj h)).1
    subst h9; decide
  rw [if_neg c14] at h
  cases h
theorem opOf_lt {x y : Int} {j fn : Nat} (h : opOf x y = some (j, fn)) : j < 31 := by
  unfold opOf at h
  by_cases c0 : x = 1 ∧ y = 0
  · rw [if_pos c0] at h
    have h9 := (Prod.mk.inj (Option.some.inj h)).1
    omega
  rw [if_neg c0] at h
  by_cases c1 : x = 1 ∧ y = 1
  · rw [if_pos c1] at h
    have h9 := (Prod.mk.inj (Option.some.inj h)).1
    omega
  rw [if_neg c1] at h
  by_cases c2 : x = 1 ∧ y = 2
  · rw [if_pos c2] at h
    have h9 := (Prod.mk.inj (Option.some.inj h)).1
    omega
  rw [if_neg c2] at h
  by_cases c3 : x = 1 ∧ y = 3
  · rw [if_pos c3] at h
    have h9 := (Prod.mk.inj (Option.some.inj h)).1
    omega
  rw [if_neg c3] at h
  by_cases c4 : x = 2 ∧ y = 0
  · rw [if_pos c4] at h
    have h9 := (Prod.mk.inj (Option.some.inj h)).1
    omega
  rw [if_neg c4] at h
  by_cases c5 : x = 2 ∧ y = 1
  · rw [if_pos c5] at h
    have h9 := (Prod.mk.inj (Option.some.inj h)).1
    omega
  rw [if_neg c5] at h
  by_cases c6 : x = 2 ∧ y = 2
  · rw [if_pos c6] at h
    have h9 := (Prod.mk.inj (Option.some.inj h)).1
    omega
  rw [if_neg c6] at h
  by_cases c7 : x = 2 ∧ y = 3
  · rw [if_pos c7] at h
    have h9 := (Prod.mk.inj (Option.some.inj h)).1
    omega
  rw [if_neg c7] at h
  by_cases c8 : x = 2 ∧ y = 4
  · rw [if_pos c8] at h
    have h9 := (Prod.mk.inj (Option.some.inj h)).1
    omega
  rw [if_neg c8] at h
  by_cases c9 : x = 2 ∧ y = 5
  · rw [if_pos c9] at h
    have h9 := (Prod.mk.inj (Option.some.inj h)).1
    omega
  rw [if_neg c9] at h
  by_cases c10 : x = 2 ∧ y = 6
  · rw [if_pos c10] at h
    have h9 := (Prod.mk.inj (Option.some.inj h)).1
    omega
  rw [if_neg c10] at h
  by_cases c11 : x = 3 ∧ y = 0
  · rw [if_pos c11] at h
    have h9 := (Prod.mk.inj (Option.some.inj h)).1
    omega
  rw [if_neg c11] at h
  by_cases c12 : x = 3 ∧ y = 1
  · rw [if_pos c12] at h
    have h9 := (Prod.mk.inj (Option.some.inj h)).1
    omega
  rw [if_neg c12] at h
  by_cases c13 : x = 3 ∧ y = 2
  · rw [if_pos c13] at h
    have h9 := (Prod.mk.inj (Option.some.inj h)).1
    omega
  rw [if_neg c13] at h
  by_cases c14 : x = 3 ∧ y = 3
  · rw [if_pos c14] at h
    have h9 := (Prod.mk.inj (Option.some.inj h)).1
    omega
  rw [if_neg c14] at h
  cases h
theorem opOf_inv0 {x y : Int} {fn : Nat} (h : opOf x y = some (2, fn)) : x = 1 ∧ y = 0 := by
  unfold opOf at h
  by_cases c0 : x = 1 ∧ y = 0
  · rw [if_pos c0] at h
    have h9 := (Prod.mk.inj (Option.some.inj h)).1
    exact c0
  rw [if_neg c0] at h
  by_cases c1 : x = 1 ∧ y = 1
  · rw [if_pos c1] at h
    have h9 := (Prod.mk.inj (Option.some.inj h)).1
    omega
  rw [if_neg c1] at h
  by_cases c2 : x = 1 ∧ y = 2
  · rw [if_pos c2] at h
    have h9 := (Prod.mk.inj (Option.some.inj h)).1
    omega
  rw [if_neg c2] at h
  by_cases c3 : x = 1 ∧ y = 3
  · rw [if_pos c3] at h
    have h9 := (Prod.mk.inj (Option.some.inj h)).1
    omega
  rw [if_neg c3] at h
  by_cases c4 : x = 2 ∧ y = 0
  · rw [if_pos c4] at h
    have h9 := (Prod.mk.inj (Option.some.inj h)).1
    omega
  rw [if_neg c4] at h
  by_cases c5 : x = 2 ∧ y = 1
  · rw [if_pos c5] at h
    have h9 := (Prod.mk.inj (Option.some.inj h)).1
    omega
  rw [if_neg c5] at h
  by_cases c6 : x = 2 ∧ y = 2
  · rw [if_pos c6] at h
    have h9 := (Prod.mk.inj (Option.some.inj h)).1
    omega
  rw [if_neg c6] at h
  by_cases c7 : x = 2 ∧ y = 3
  · rw [if_pos c7] at h
    have h9 := (Prod.mk.inj (Option.some.inj h)).1
    omega
  rw [if_neg c7] at h
  by_cases c8 : x = 2 ∧ y = 4
  · rw [if_pos c8] at h
    have h9 := (Prod.mk.inj (Option.some.inj h)).1
    omega
  rw [if_neg c8] at h
  by_cases c9 : x = 2 ∧ y = 5
  · rw [if_pos c9] at h
    have h9 := (Prod.mk.inj (Option.some.inj h)).1
    omega
  rw [if_neg c9] at h
  by_cases c10 : x = 2 ∧ y = 6
  · rw [if_pos c10] at h
    have h9 := (Prod.mk.inj (Option.some.inj h)).1
    omega
  rw [if_neg c10] at h
  by_cases c11 : x = 3 ∧ y = 0
  · rw [if_pos c11] at h
    have h9 := (Prod.mk.inj (Option.some.inj h)).1
    omega
  rw [if_neg c11] at h
  by_cases c12 : x = 3 ∧ y = 1
  · rw [if_pos c12] at h
    have h9 := (Prod.mk.inj (Option.some.inj h)).1
    omega
  rw [if_neg c12] at h
  by_cases c13 : x = 3 ∧ y = 2
  · rw [if_pos c13] at h
    have h9 := (Prod.mk.inj (Option.some.inj h)).1
    omega
  rw [if_neg c13] at h
  by_cases c14 : x = 3 ∧ y = 3
  · rw [if_pos c14] at h
    have h9 := (Prod.mk.inj (Option.some.inj h)).1
    omega
  rw [if_neg c14] at h
  cases h
theorem opOf_inv1 {x y : Int} {fn : Nat} (h : opOf x y = some (4, fn)) : x = 1 ∧ y = 1 := by
  unfold opOf at h
  by_cases c0 : x = 1 ∧ y = 0
  · rw [if_pos c0] at h
    have h9 := (Prod.mk.inj (Option.some.inj h)).1
    omega
  rw [if_neg c0] at h
  by_cases c1 : x = 1 ∧ y = 1
  · rw [if_pos c1] at h
    have h9 := (Prod.mk.inj (Option.some.inj h)).1
    exact c1
  rw [if_neg c1] at h
  by_cases c2 : x = 1 ∧ y = 2
  · rw [if_pos c2] at h
    have h9 := (Prod.mk.inj (Option.some.inj h)).1
    omega
  rw [if_neg c2] at h
  by_cases c3 : x = 1 ∧ y = 3
  · rw [if_pos c3] at h
    have h9 := (Prod.mk.inj (Option.some.inj h)).1
    omega
  rw [if_neg c3] at h
  by_cases c4 : x = 2 ∧ y = 0
  · rw [if_pos c4] at h
    have h9 := (Prod.mk.inj (Option.some.inj h)).1
    omega
  rw [if_neg c4] at h
  by_cases c5 : x = 2 ∧ y = 1
  · rw [if_pos c5] at h
    have h9 := (Prod.mk.inj (Option.some.inj h)).1
    omega
  rw [if_neg c5] at h
  by_cases c6 : x = 2 ∧ y = 2
  · rw [if_pos c6] at h
    have h9 := (Prod.mk.inj (Option.some.inj h)).1
    omega
  rw [if_neg c6] at h
  by_cases c7 : x = 2 ∧ y = 3
  · rw [if_pos c7] at h
    have h9 := (Prod.mk.inj (Option.some.inj h)).1
    omega
  rw [if_neg c7] at h
  by_cases c8 : x = 2 ∧ y = 4
  · rw [if_pos c8] at h
    have h9 := (Prod.mk.inj (Option.some.inj h)).1
    omega
  rw [if_neg c8] at h
  by_cases c9 : x = 2 ∧ y = 5
  · rw [if_pos c9] at h
    have h9 := (Prod.mk.inj (Option.some.inj h)).1
    omega
  rw [if_neg c9] at h
  by_cases c10 : x = 2 ∧ y = 6
  · rw [if_pos c10] at h
    have h9 := (Prod.mk.inj (Option.some.inj h)).1
    omega
  rw [if_neg c10] at h
  by_cases c11 : x = 3 ∧ y = 0
  · rw [if_pos c11] at h
    have h9 := (Prod.mk.inj (Option.some.inj h)).1
    omega
  rw [if_neg c11] at h
  by_cases c12 : x = 3 ∧ y = 1
  · rw [if_pos c12] at h
    have h9 := (Prod.mk.inj (Option.some.inj h)).1
    omega
  rw [if_neg c12] at h
  by_cases c13 : x = 3 ∧ y = 2
  · rw [if_pos c13] at h
    have h9 := (Prod.mk.inj (Option.some.inj h)).1
    omega
  rw [if_neg c13] at h
  by_cases c14 : x = 3 ∧ y = 3
  · rw [if_pos c14] at h
    have h9 := (Prod.mk.inj (Option.some.inj h)).1
    omega
  rw [if_neg c14] at h
  cases h
theorem opOf_inv2 {x y : Int} {fn : Nat} (h : opOf x y = some (6, fn)) : x = 1 ∧ y = 2 := by
  unfold opOf at h
  by_cases c0 : x = 1 ∧ y = 0
  · rw [if_pos c0] at h
    have h9 := (Prod.mk.inj (Option.some.inj h)).1
    omega
  rw [if_neg c0] at h
  by_cases c1 : x = 1 ∧ y = 1
  · rw [if_pos c1] at h
    have h9 := (Prod.mk.inj (Option.some.inj h)).1
    omega
  rw [if_neg c1] at h
  by_cases c2 : x = 1 ∧ y = 2
  · rw [if_pos c2] at h
    have h9 := (Prod.mk.inj (Option.some.inj h)).1
    exact c2
  rw [if_neg c2] at h
  by_cases c3 : x = 1 ∧ y = 3
  · rw [if_pos c3] at h
    have h9 := (Prod.mk.inj (Option.some.inj h)).1
    omega
  rw [if_neg c3] at h
  by_cases c4 : x = 2 ∧ y = 0
  · rw [if_pos c4] at h
    have h9 := (Prod.mk.inj (Option.some.inj h)).1
    omega
  rw [if_neg c4] at h
  by_cases c5 : x = 2 ∧ y = 1
  · rw [if_pos c5] at h
    have h9 := (Prod.mk.inj (Option.some.inj h)).1
    omega
  rw [if_neg c5] at h
  by_cases c6 : x = 2 ∧ y = 2
  · rw [if_pos c6] at h
    have h9 := (Prod.mk.inj (Option.some.inj h)).1
    omega
  rw [if_neg c6] at h
  by_cases c7 : x = 2 ∧ y = 3
  · rw [if_pos c7] at h
    have h9 := (Prod.mk.inj (Option.some.inj h)).1
    omega
  rw [if_neg c7] at h
  by_cases c8 : x = 2 ∧ y = 4
  · rw [if_pos c8] at h
    have h9 := (Prod.mk.inj (Option.some.inj h)).1
    omega
  rw [if_neg c8] at h
  by_cases c9 : x = 2 ∧ y = 5
  · rw [if_pos c9] at h
    have h9 := (Prod.mk.inj (Option.some.inj h)).1
    omega
  rw [if_neg c9] at h
  by_cases c10 : x = 2 ∧ y = 6
  · rw [if_pos c10] at h
    have h9 := (Prod.mk.inj (Option.some.inj h)).1
    omega
  rw [if_neg c10] at h
  by_cases c11 : x = 3 ∧ y = 0
  · rw [if_pos c11] at h
    have h9 := (Prod.mk.inj (Option.some.inj h)).1
    omega
  rw [if_neg c11] at h
  by_cases c12 : x = 3 ∧ y = 1
  · rw [if_pos c12] at h
    have h9 := (Prod.mk.inj (Option.some.inj h)).1
    omega
  rw [if_neg c12] at h
  by_cases c13 : x = 3 ∧ y = 2
  · rw [if_pos c13] at h
    have h9 := (Prod.mk.inj (Option.some.inj h)).1
    omega
  rw [if_neg c13] at h
  by_cases c14 : x = 3 ∧ y = 3
  · rw [if_pos c14] at h
    have h9 := (Prod.mk.inj (Option.some.inj h)).1
    omega
  rw [if_neg c14] at h
  cases h
theorem opOf_inv3 {x y : Int} {fn : Nat} (h : opOf x y = some (8, fn)) : x = 1 ∧ y = 3 := by
  unfold opOf at h
  by_cases c0 : x = 1 ∧ y = 0
  · rw [if_pos c0] at h
    have h9 := (Prod.mk.inj (Option.some.inj h)).1
    omega
  rw [if_neg c0] at h
  by_cases c1 : x = 1 ∧ y = 1
  · rw [if_pos c1] at h
    have h9 := (Prod.mk.inj (Option.some.inj h)).1
    omega
  rw [if_neg c1] at h
  by_cases c2 : x = 1 ∧ y = 2
  · rw [if_pos c2] at h
    have h9 := (Prod.mk.inj (Option.some.inj h)).1
    omega
  rw [if_neg c2] at h
  by_cases c3 : x = 1 ∧ y = 3
  · rw [if_pos c3] at h
    have h9 := (Prod.mk.inj (Option.some.inj h)).1
    exact c3
  rw [if_neg c3] at h
  by_cases c4 : x = 2 ∧ y = 0
  · rw [if_pos c4] at h
    have h9 := (Prod.mk.inj (Option.some.inj h)).1
    omega
  rw [if_neg c4] at h
  by_cases c5 : x = 2 ∧ y = 1
  · rw [if_pos c5] at h
    have h9 := (Prod.mk.inj (Option.some.inj h)).1
    omega
  rw [if_neg c5] at h
  by_cases c6 : x = 2 ∧ y = 2
  · rw [if_pos c6] at h
    have h9 := (Prod.mk.inj (Option.some.inj h)).1
    omega
  rw [if_neg c6] at h
  by_cases c7 : x = 2 ∧ y = 3
  · rw [if_pos c7] at h
    have h9 := (Prod.mk.inj (Option.some.inj h)).1
    omega
  rw [if_neg c7] at h
  by_cases c8 : x = 2 ∧ y = 4
  · rw [if_pos c8] at h
    have h9 := (Prod.mk.inj (Option.some.inj h)).1
    omega
  rw [if_neg c8] at h
  by_cases c9 : x = 2 ∧ y = 5
  · rw [if_pos c9] at h
    have h9 := (Prod.mk.inj (Option.some.inj h)).1
    omega
  rw [if_neg c9] at h
  by_cases c10 : x = 2 ∧ y = 6
  · rw [if_pos c10] at h
    have h9 := (Prod.mk.inj (Option.some.inj h)).1
    omega
  rw [if_neg c10] at h
  by_cases c11 : x = 3 ∧ y = 0
  · rw [if_pos c11] at h
    have h9 := (Prod.mk.inj (Option.some.inj h)).1
    omega
  rw [if_neg c11] at h
  by_cases c12 : x = 3 ∧ y = 1
  · rw [if_pos c12] at h
    have h9 := (Prod.mk.inj (Option.some.inj h)).1
    omega
  rw [if_neg c12] at h
  by_cases c13 : x = 3 ∧ y = 2
  · rw [if_pos c13] at h
    have h9 := (Prod.mk.inj (Option.some.inj h)).1
    omega
  rw [if_neg c13] at h
  by_cases c14 : x = 3 ∧ y = 3
  · rw [if_pos c14] at h
    have h9 := (Prod.mk.inj (Option.some.inj h)).1
    omega
  rw [if_neg c14] at h
  cases h
theorem opOf_inv4 {x y : Int} {fn : Nat} (h : opOf x y = some (10, fn)) : x = 2 ∧ y = 0 := by
  unfold opOf at h
  by_cases c0 : x = 1 ∧ y = 0
  · rw [if_pos c0] at h
    have h9 := (Prod.mk.inj (Option.some.inj h)).1
    omega
  rw [if_neg c0] at h
  by_cases c1 : x = 1 ∧ y = 1
  · rw [if_pos c1] at h
    have h9 := (Prod.mk.inj (Option.some.inj h)).1
    omega
  rw [if_neg c1] at h
  by_cases c2 : x = 1 ∧ y = 2
  · rw [if_pos c2] at h
    have h9 := (Prod.mk.inj (Option.some.inj h)).1
    omega
  rw [if_neg c2] at h
  by_cases c3 : x = 1 ∧ y = 3
  · rw [if_pos c3] at h
    have h9 := (Prod.mk.inj (Option.some.inj h)).1
    omega
  rw [if_neg c3] at h
  by_cases c4 : x = 2 ∧ y = 0
  · rw [if_pos c4] at h
    have h9 := (Prod.mk.inj (Option.some.inj h)).1
    exact c4
  rw [if_neg c4] at h
  by_cases c5 : x = 2 ∧ y = 1
  · rw [if_pos c5] at h
    have h9 := (Prod.mk.inj (Option.some.inj h)).1
    omega
  rw [if_neg c5] at h
  by_cases c6 : x = 2 ∧ y = 2
  · rw [if_pos c6] at h
    have h9 := (Prod.mk.inj (Option.some.inj h)).1
    omega
  rw [if_neg c6] at h
  by_cases c7 : x = 2 ∧ y = 3
  · rw [if_pos c7] at h
    have h9 := (Prod.mk.inj (Option.some.inj h)).1
    omega
  rw [if_neg c7] at h
  by_cases c8 : x = 2 ∧ y = 4
  · rw [if_pos c8] at h
    have h9 := (Prod.mk.inj (Option.some.inj h)).1
    omega
  rw [if_neg c8] at h
  by_cases c9 : x = 2 ∧ y = 5
  · rw [if_pos c9] at h
    have h9 := (Prod.mk.inj (Option.some.inj h)).1
    omega
  rw [if_neg c9] at h
  by_cases c10 : x = 2 ∧ y = 6
  · rw [if_pos c10] at h
    have h9 := (Prod.mk.inj (Option.some.inj h)).1
    omega
  rw [if_neg c10] at h
  by_cases c11 : x = 3 ∧ y = 0
  · rw [if_pos c11] at h
    have h9 := (Prod.mk.inj (Option.some.inj h)).1
    omega
  rw [if_neg c11] at h
  by_cases c12 : x = 3 ∧ y = 1
  · rw [if_pos c12] at h
    have h9 := (Prod.mk.inj (Option.some.inj h)).1
    omega
  rw [if_neg c12] at h
  by_cases c13 : x = 3 ∧ y = 2
  · rw [if_pos c13] at h
    have h9 := (Prod.mk.inj (Option.some.inj h)).1
    omega
  rw [if_neg c13] at h
  by_cases c14 : x = 3 ∧ y = 3
  · rw [if_pos c14] at h
    have h9 := (Prod.mk.inj (Option.some.inj h)).1
    omega
  rw [if_neg c14] at h
  cases h
theorem opOf_inv5 {x y : Int} {fn : Nat} (h : opOf x y = some (12, fn)) : x = 2 ∧ y = 1 := by
  unfold opOf at h
  by_cases c0 : x = 1 ∧ y = 0
  · rw [if_pos c0] at h
    have h9 := (Prod.mk.inj (Option.some.inj h)).1
    omega
  rw [if_neg c0] at h
  by_cases c1 : x = 1 ∧ y = 1
  · rw [if_pos c1] at h
    have h9 := (Prod.mk.inj (Option.some.inj h)).1
    omega
  rw [if_neg c1] at h
  by_cases c2 : x = 1 ∧ y = 2
  · rw [if_pos c2] at h
    have h9 := (Prod.mk.inj (Option.some.inj h)).1
    omega
  rw [if_neg c2] at h
  by_cases c3 : x = 1 ∧ y = 3
  · rw [if_pos c3] at h
    have h9 := (Prod.mk.inj (Option.some.inj h)).1
    omega
  rw [if_neg c3] at h
  by_cases c4 : x = 2 ∧ y = 0
  · rw [if_pos c4] at h
    have h9 := (Prod.mk.inj (Option.some.inj h)).1
    omega
  rw [if_neg c4] at h
  by_cases c5 : x = 2 ∧ y = 1
  · rw [if_pos c5] at h
    have h9 := (Prod.mk.inj (Option.some.inj h)).1
    exact c5
  rw [if_neg c5] at h
  by_cases c6 : x = 2 ∧ y = 2
  · rw [if_pos c6] at h
    have h9 := (Prod.mk.inj (Option.some.inj h)).1
    omega
  rw [if_neg c6] at h
  by_cases c7 : x = 2 ∧ y = 3
  · rw [if_pos c7] at h
    have h9 := (Prod.mk.inj (Option.some.inj h)).1
    omega
  rw [if_neg c7] at h
  by_cases c8 : x = 2 ∧ y = 4
  · rw [if_pos c8] at h
    have h9 := (Prod.mk.inj (Option.some.inj h)).1
    omega
  rw [if_neg c8] at h
  by_cases c9 : x = 2 ∧ y = 5
  · rw [if_pos c9] at h
    have h9 := (Prod.mk.inj (Option.some.inj h)).1
    omega
  rw [if_neg c9] at h
  by_cases c10 : x = 2 ∧ y = 6
  · rw [if_pos c10] at h
    have h9 := (Prod.mk.inj (Option.some.inj h)).1
    omega
  rw [if_neg c10] at h
  by_cases c11 : x = 3 ∧ y = 0
  · rw [if_pos c11] at h
    have h9 := (Prod.mk.inj (Option.some.inj h)).1
    omega
  rw [if_neg c11] at h
  by_cases c12 : x = 3 ∧ y = 1
  · rw [if_pos c12] at h
    have h9 := (Prod.mk.inj (Option.some.inj h)).1
    omega
  rw [if_neg c12] at h
  by_cases c13 : x = 3 ∧ y = 2
  · rw [if_pos c13] at h
    have h9 := (Prod.mk.inj (Option.some.inj h)).1
    omega
  rw [if_neg c13] at h
  by_cases c14 : x = 3 ∧ y = 3
  · rw [if_pos c14] at h
    have h9 := (Prod.mk.inj (Option.some.inj h)).1
    omega
  rw [if_neg c14] at h
  cases h
theorem opOf_inv6 {x y : Int} {fn : Nat} (h : opOf x y = some (14, fn)) : x = 2 ∧ y = 2 := by
  unfold opOf at h
  by_cases c0 : x = 1 ∧ y = 0
  · rw [if_pos c0] at h
    have h9 := (Prod.mk.inj (Option.some.inj h)).1
    omega
  rw [if_neg c0] at h
  by_cases c1 : x = 1 ∧ y = 1
  · rw [if_pos c1] at h
    have h9 := (Prod.mk.inj (Option.some.inj h)).1
    omega
  rw [if_neg c1] at h
  by_cases c2 : x = 1 ∧ y = 2
  · rw [if_pos c2] at h
    have h9 := (Prod.mk.inj (Option.some.inj h)).1
    omega
  rw [if_neg c2] at h
  by_cases c3 : x = 1 ∧ y = 3
  · rw [if_pos c3] at h
    have h9 := (Prod.mk.inj (Option.some.inj h)).1
    omega
  rw [if_neg c3] at h
  by_cases c4 : x = 2 ∧ y = 0
  · rw [if_pos c4] at h
    have h9 := (Prod.mk.inj (Option.some.inj h)).1
    omega
  rw [if_neg c4] at h
  by_cases c5 : x = 2 ∧ y = 1
  · rw [if_pos c5] at h
    have h9 := (Prod.mk.inj (Option.some.inj h)).1
    omega
  rw [if_neg c5] at h
  by_cases c6 : x = 2 ∧ y = 2
  · rw [if_pos c6] at h
    have h9 := (Prod.mk.inj (Option.some.inj h)).1
    exact c6
  rw [if_neg c6] at h
  by_cases c7 : x = 2 ∧ y = 3
  · rw [if_pos c7] at h
    have h9 := (Prod.mk.inj (Option.some.inj h)).1
    omega
  rw [if_neg c7] at h
  by_cases c8 : x = 2 ∧ y = 4
  · rw [if_pos c8] at h
    have h9 := (Prod.mk.inj (Option.some.inj h)).1
    omega
  rw [if_neg c8] at h
  by_cases c9 : x = 2 ∧ y = 5
  · rw [if_pos c9] at h
    have h9 := (Prod.mk.inj (Option.some.inj h)).1
    omega
  rw [if_neg c9] at h
  by_cases c10 : x = 2 ∧ y = 6
  · rw [if_pos c10] at h
    have h9 := (Prod.mk.inj (Option.some.inj h)).1
    omega
  rw [if_neg c10] at h
  by_cases c11 : x = 3 ∧ y = 0
  · rw [if_pos c11] at h
    have h9 := (Prod.mk.inj (Option.some.inj h)).1
    omega
  rw [if_neg c11] at h
  by_cases c12 : x = 3 ∧ y = 1
  · rw [if_pos c12] at h
    have h9 := (Prod.mk.inj (Option.some.inj h)).1
    omega
  rw [if_neg c12] at h
  by_cases c13 : x = 3 ∧ y = 2
  · rw [if_pos c13] at h
    have h9 := (Prod.mk.inj (Option.some.inj h)).1
    omega
  rw [if_neg c13] at h
  by_cases c14 : x = 3 ∧ y = 3
  · rw [if_pos c14] at h
    have h9 := (Prod.mk.inj (Option.some.inj h)).1
    omega
  rw [if_neg c14] at h
  cases h
theorem opOf_inv7 {x y : Int} {fn : Nat} (h : opOf x y = some (16, fn)) : x = 2 ∧ y = 3 := by
  unfold opOf at h
  by_cases c0 : x = 1 ∧ y = 0
  · rw [if_pos c0] at h
    have h9 := (Prod.mk.inj (Option.some.inj h)).1
    omega
  rw [if_neg c0] at h
  by_cases c1 : x = 1 ∧ y = 1
  · rw [if_pos c1] at h
    have h9 := (Prod.mk.inj (Option.some.inj h)).1
    omega
  rw [if_neg c1] at h
  by_cases c2 : x = 1 ∧ y = 2
  · rw [if_pos c2] at h
    have h9 := (Prod.mk.inj (Option.some.inj h)).1
    omega
  rw [if_neg c2] at h
  by_cases c3 : x = 1 ∧ y = 3
  · rw [if_pos c3] at h
    have h9 := (Prod.mk.inj (Option.some.inj h)).1
    omega
  rw [if_neg c3] at h
  by_cases c4 : x = 2 ∧ y = 0
  · rw [if_pos c4] at h
    have h9 := (Prod.mk.inj (Option.some.inj h)).1
    omega
  rw [if_neg c4] at h
  by_cases c5 : x = 2 ∧ y = 1
  · rw [if_pos c5] at h
    have h9 := (Prod.mk.inj (Option.some.inj h)).1
    omega
  rw [if_neg c5] at h
  by_cases c6 : x = 2 ∧ y = 2
  · rw [if_pos c6] at h
    have h9 := (Prod.mk.inj (Option.some.inj h)).1
    omega
  rw [if_neg c6] at h
  by_cases c7 : x = 2 ∧ y = 3
  · rw [if_pos c7] at h
    have h9 := (Prod.mk.inj (Option.some.inj h)).1
    exact c7
  rw [if_neg c7] at h
  by_cases c8 : x = 2 ∧ y = 4
  · rw [if_pos c8] at h
    have h9 := (Prod.mk.inj (Option.some.inj h)).1
    omega
  rw [if_neg c8] at h
  by_cases c9 : x = 2 ∧ y = 5
  · rw [if_pos c9] at h
    have h9 := (Prod.mk.inj (Option.some.inj h)).1
    omega
  rw [if_neg c9] at h
  by_cases c10 : x = 2 ∧ y = 6
  · rw [if_pos c10] at h
    have h9 := (Prod.mk.inj (Option.some.inj h)).1
    omega
  rw [if_neg c10] at h
  by_cases c11 : x = 3 ∧ y = 0
  · rw [if_pos c11] at h
    have h9 := (Prod.mk.inj (Option.some.inj h)).1
    omega
  rw [if_neg c11] at h
  by_cases c12 : x = 3 ∧ y = 1
  · rw [if_pos c12] at h
    have h9 := (Prod.mk.inj (Option.some.inj h)).1
    omega
  rw [if_neg c12] at h
  by_cases c13 : x = 3 ∧ y = 2
  · rw [if_pos c13] at h
    have h9 := (Prod.mk.inj (Option.some.inj h)).1
    omega
  rw [if_neg c13] at h
  by_cases c14 : x = 3 ∧ y = 3
  · rw [if_pos c14] at h
    have h9 := (Prod.mk.inj (Option.some.inj h)).1
    omega
  rw [if_neg c14] at h
  cases h
theorem opOf_inv8 {x y : Int} {fn : Nat} (h : opOf x y = some (18, fn)) : x = 2 ∧ y = 4 := by
  unfold opOf at h
  by_cases c0 : x = 1 ∧ y = 0
  · rw [if_pos c0] at h
    have h9 := (Prod.mk.inj (Option.some.inj h)).1
    omega
  rw [if_neg c0] at h
  by_cases c1 : x = 1 ∧ y = 1
  · rw [if_pos c1] at h
    have h9 := (Prod.mk.inj (Option.some.inj h)).1
    omega
  rw [if_neg c1] at h
  by_cases c2 : x = 1 ∧ y = 2
  · rw [if_pos c2] at h
    have h9 := (Prod.mk.inj (Option.some.inj h)).1
    omega
  rw [if_neg c2] at h
  by_cases c3 : x = 1 ∧ y = 3
  · rw [if_pos c3] at h
    have h9 := (Prod.mk.inj (Option.some.inj h)).1
    omega
  rw [if_neg c3] at h
  by_cases c4 : x = 2 ∧ y = 0
  · rw [if_pos c4] at h
    have h9 := (Prod.mk.inj (Option.some.inj h)).1
    omega
  rw [if_neg c4] at h
  by_cases c5 : x = 2 ∧ y = 1
  · rw [if_pos c5] at h
    have h9 := (Prod.mk.inj (Option.some.inj h)).1
    omega
  rw [if_neg c5] at h
  by_cases c6 : x = 2 ∧ y = 2
  · rw [if_pos c6] at h
    have h9 := (Prod.mk.inj (Option.some.inj h)).1
    omega
  rw [if_neg c6] at h
  by_cases c7 : x = 2 ∧ y = 3
  · rw [if_pos c7] at h
    have h9 := (Prod.mk.inj (Option.some.inj h)).1
    omega
  rw [if_neg c7] at h
  by_cases c8 : x = 2 ∧ y = 4
  · rw [if_pos c8] at h
    have h9 := (Prod.mk.inj (Option.some.inj h)).1
    exact c8
  rw [if_neg c8] at h
  by_cases c9 : x = 2 ∧ y = 5
  · rw [if_pos c9] at h
    have h9 := (Prod.mk.inj (Option.some.inj h)).1
    omega
  rw [if_neg c9] at h
  by_cases c10 : x = 2 ∧ y = 6
  · rw [if_pos c10] at h
    have h9 := (Prod.mk.inj (Option.some.inj h)).1
    omega
  rw [if_neg c10] at h
  by_cases c11 : x = 3 ∧ y = 0
  · rw [if_pos c11] at h
    have h9 := (Prod.mk.inj (Option.some.inj h)).1
    omega
  rw [if_neg c11] at h
  by_cases c12 : x = 3 ∧ y = 1
  · rw [if_pos c12] at h
    have h9 := (Prod.mk.inj (Option.some.inj h)).1
    omega
  rw [if_neg c12] at h
  by_cases c13 : x = 3 ∧ y = 2
  · rw [if_pos c13] at h
    have h9 := (Prod.mk.inj (Option.some.inj h)).1
    omega
  rw [if_neg c13] at h
  by_cases c14 : x = 3 ∧ y = 3
  · rw [if_pos c14] at h
    have h9 := (Prod.mk.inj (Option.some.inj h)).1
    omega
  rw [if_neg c14] at h
  cases h
theorem opOf_inv9 {x y : Int} {fn : Nat} (h : opOf x y = some (20, fn)) : x = 2 ∧ y = 5 := by
  unfold opOf at h
  by_cases c0 : x = 1 ∧ y = 0
  · rw [if_pos c0] at h
    have h9 := (Prod.mk.inj (Option.some.inj h)).1
    omega
  rw [if_neg c0] at h
  by_cases c1 : x = 1 ∧ y = 1
  · rw [if_pos c1] at h
    have h9 := (Prod.mk.inj (Option.some.inj h)).1
    omega
  rw [if_neg c1] at h
  by_cases c2 : x = 1 ∧ y = 2
  · rw [if_pos c2] at h
    have h9 := (Prod.mk.inj (Option.some.inj h)).1
    omega
  rw [if_neg c2] at h
  by_cases c3 : x = 1 ∧ y = 3
  · rw [if_pos c3] at h
    have h9 := (Prod.mk.inj (Option.some.inj h)).1
    omega
  rw [if_neg c3] at h
  by_cases c4 : x = 2 ∧ y = 0
  · rw [if_pos c4] at h
    have h9 := (Prod.mk.inj (Option.some.inj h)).1
    omega
  rw [if_neg c4] at h
  by_cases c5 : x = 2 ∧ y = 1
  · rw [if_pos c5] at h
    have h9 := (Prod.mk.inj (Option.some.inj h)).1
    omega
  rw [if_neg c5] at h
  by_cases c6 : x = 2 ∧ y = 2
  · rw [if_pos c6] at h
    have h9 := (Prod.mk.inj (Option.some.inj h)).1
    omega
  rw [if_neg c6] at h
  by_cases c7 : x = 2 ∧ y = 3
  · rw [if_pos c7] at h
    have h9 := (Prod.mk.inj (Option.some.inj h)).1
    omega
  rw [if_neg c7] at h
  by_cases c8 : x = 2 ∧ y = 4
  · rw [if_pos c8] at h
    have h9 := (Prod.mk.inj (Option.some.inj h)).1
    omega
  rw [if_neg c8] at h
  by_cases c9 : x = 2 ∧ y = 5
  · rw [if_pos c9] at h
    have h9 := (Prod.mk.inj (Option.some.inj h)).1
    exact c9
  rw [if_neg c9] at h
  by_cases c10 : x = 2 ∧ y = 6
  · rw [if_pos c10] at h
    have h9 := (Prod.mk.inj (Option.some.inj h)).1
    omega
  rw [if_neg c10] at h
  by_cases c11 : x = 3 ∧ y = 0
  · rw [if_pos c11] at h
    have h9 := (Prod.mk.inj (Option.some.inj h)).1
    omega
  rw [if_neg c11] at h
  by_cases c12 : x = 3 ∧ y = 1
  · rw [if_pos c12] at h
    have h9 := (Prod.mk.inj (Option.some.inj h)).1
    omega
  rw [if_neg c12] at h
  by_cases c13 : x = 3 ∧ y = 2
  · rw [if_pos c13] at h
    have h9 := (Prod.mk.inj (Option.some.inj h)).1
    omega
  rw [if_neg c13] at h
  by_cases c14 : x = 3 ∧ y = 3
  · rw [if_pos c14] at h
    have h9 := (Prod.mk.inj (Option.some.inj h)).1
    omega
  rw [if_neg c14] at h
  cases h
theorem opOf_inv10 {x y : Int} {fn : Nat} (h : opOf x y = some (22, fn)) : x = 2 ∧ y = 6 := by
  unfold opOf at h
  by_cases c0 : x = 1 ∧ y = 0
  · rw [if_pos c0] at h
    have h9 := (Prod.mk.inj (Option.some.inj h)).1
    omega
  rw [if_neg c0] at h
  by_cases c1 : x = 1 ∧ y = 1
  · rw [if_pos c1] at h
    have h9 := (Prod.mk.inj (Option.some.inj h)).1
    omega
  rw [if_neg c1] at h
  by_cases c2 : x = 1 ∧ y = 2
  · rw [if_pos c2] at h
    have h9 := (Prod.mk.inj (Option.some.inj h)).1
    omega
  rw [if_neg c2] at h
  by_cases c3 : x = 1 ∧ y = 3
  · rw [if_pos c3] at h
    have h9 := (Prod.mk.inj (Option.some.inj h)).1
    omega
  rw [if_neg c3] at h
  by_cases c4 : x = 2 ∧ y = 0
  · rw [if_pos c4] at h
    have h9 := (Prod.mk.inj (Option.some.inj h)).1
    omega
  rw [if_neg c4] at h
  by_cases c5 : x = 2 ∧ y = 1
  · rw [if_pos c5] at h
    have h9 := (Prod.mk.inj (Option.some.inj h)).1
    omega
  rw [if_neg c5] at h
  by_cases c6 : x = 2 ∧ y = 2
  · rw [if_pos c6] at h
    have h9 := (Prod.mk.inj (Option.some.inj h)).1
    omega
  rw [if_neg c6] at h
  by_cases c7 : x = 2 ∧ y = 3
  · rw [if_pos c7] at h
    have h9 := (Prod.mk.inj (Option.some.inj h)).1
    omega
  rw [if_neg c7] at h
  by_cases c8 : x = 2 ∧ y = 4
  · rw [if_pos c8] at h
    have h9 := (Prod.mk.inj (Option.some.inj h)).1
    omega
  rw [if_neg c8] at h
  by_cases c9 : x = 2 ∧ y = 5
  · rw [if_pos c9] at h
    have h9 := (Prod.mk.inj (Option.some.inj h)).1
    omega
  rw [if_neg c9] at h
  by_cases c10 : x = 2 ∧ y = 6
  · rw [if_pos c10] at h
    have h9 := (Prod.mk.inj (Option.some.inj h)).1
    exact c10
  rw [if_neg c10] at h
  by_cases c11 : x = 3 ∧ y = 0
  · rw [if_pos c11] at h
    have h9 := (Prod.mk.inj (Option.some.inj h)).1
    omega
  rw [if_neg c11] at h
  by_cases c12 : x = 3 ∧ y = 1
  · rw [if_pos c12] at h
    have h9 := (Prod.mk.inj (Option.some.inj h)).1
    omega
  rw [if_neg c12] at h
  by_cases c13 : x = 3 ∧ y = 2
  · rw [if_pos c13] at h
    have h9 := (Prod.mk.inj (Option.some.inj h)).1
    omega
  rw [if_neg c13] at h
  by_cases c14 : x = 3 ∧ y = 3
  · rw [if_pos c14] at h
    have h9 := (Prod.mk.inj (Option.some.inj h)).1
    omega
  rw [if_neg c14] at h
  cases h
theorem opOf_inv11 {x y : Int} {fn : Nat} (h : opOf x y = some (24, fn)) : x = 3 ∧ y = 0 := by
  unfold opOf at h
  by_cases c0 : x = 1 ∧ y = 0
  · rw [if_pos c0] at h
    have h9 := (Prod.mk.inj (Option.some.inj h)).1
    omega
  rw [if_neg c0] at h
  by_cases c1 : x = 1 ∧ y = 1
  · rw [if_pos c1] at h
    have h9 := (Prod.mk.inj (Option.some.inj h)).1
    omega
  rw [if_neg c1] at h
  by_cases c2 : x = 1 ∧ y = 2
  · rw [if_pos c2] at h
    have h9 := (Prod.mk.inj (Option.some.inj h)).1
    omega
  rw [if_neg c2] at h
  by_cases c3 : x = 1 ∧ y = 3
  · rw [if_pos c3] at h
    have h9 := (Prod.mk.inj (Option.some.inj h)).1
    omega
  rw [if_neg c3] at h
  by_cases c4 : x = 2 ∧ y = 0
  · rw [if_pos c4] at h
    have h9 := (Prod.mk.inj (Option.some.inj h)).1
    omega
  rw [if_neg c4] at h
  by_cases c5 : x = 2 ∧ y = 1
  · rw [if_pos c5] at h
    have h9 := (Prod.mk.inj (Option.some.inj h)).1
    omega
  rw [if_neg c5] at h
  by_cases c6 : x = 2 ∧ y = 2
  · rw [if_pos c6] at h
    have h9 := (Prod.mk.inj (Option.some.inj h)).1
    omega
  rw [if_neg c6] at h
  by_cases c7 : x = 2 ∧ y = 3
  · rw [if_pos c7] at h
    have h9 := (Prod.mk.inj (Option.some.inj h)).1
    omega
  rw [if_neg c7] at h
  by_cases c8 : x = 2 ∧ y = 4
  · rw [if_pos c8] at h
    have h9 := (Prod.mk.inj (Option.some.inj h)).1
    omega
  rw [if_neg c8] at h
  by_cases c9 : x = 2 ∧ y = 5
  · rw [if_pos c9] at h
    have h9 := (Prod.mk.inj (Option.some.inj h)).1
    omega
  rw [if_neg c9] at h
  by_cases c10 : x = 2 ∧ y = 6
  · rw [if_pos c10] at h
    have h9 := (Prod.mk.inj (Option.some.inj h)).1
    omega
  rw [if_neg c10] at h
  by_cases c11 : x = 3 ∧ y = 0
  · rw [if_pos c11] at h
    have h9 := (Prod.mk.inj (Option.some.inj h)).1
    exact c11
  rw [if_neg c11] at h
  by_cases c12 : x = 3 ∧ y = 1
  · rw [if_pos c12] at h
    have h9 := (Prod.mk.inj (Option.some.inj h)).1
    omega
  rw [if_neg c12] at h
  by_cases c13 : x = 3 ∧ y = 2
  · rw [if_pos c13] at h
    have h9 := (Prod.mk.inj (Option.some.inj h)).1
    omega
  rw [if_neg c13] at h
  by_cases c14 : x = 3 ∧ y = 3
  · rw [if_pos c14] at h
    have h9 := (Prod.mk.inj (Option.some.inj h)).1
    omega
  rw [if_neg c14] at h
  cases h
theorem opOf_inv12 {x y : Int} {fn : Nat} (h : opOf x y = some (26, fn)) : x = 3 ∧ y = 1 := by
  unfold opOf at h
  by_cases c0 : x = 1 ∧ y = 0
  · rw [if_pos c0] at h
    have h9 := (Prod.mk.inj (Option.some.inj h)).1
    omega
  rw [if_neg c0] at h
  by_cases c1 : x = 1 ∧ y = 1
  · rw [if_pos c1] at h
    have h9 := (Prod.mk.inj (Option.some.inj h)).1
    omega
  rw [if_neg c1] at h
  by_cases c2 : x = 1 ∧ y = 2
  · rw [if_pos c2] at h
    have h9 := (Prod.mk.inj (Option.some.inj h)).1
    omega
  rw [if_neg c2] at h
  by_cases c3 : x = 1 ∧ y = 3
  · rw [if_pos c3] at h
    have h9 := (Prod.mk.inj (Option.some.inj h)).1
    omega
  rw [if_neg c3] at h
  by_cases c4 : x = 2 ∧ y = 0
  · rw [if_pos c4] at h
    have h9 := (Prod.mk.inj (Option.some.inj h)).1
    omega
  rw [if_neg c4] at h
  by_cases c5 : x = 2 ∧ y = 1
  · rw [if_pos c5] at h
    have h9 := (Prod.mk.inj (Option.some.inj h)).1
    omega
  rw [if_neg c5] at h
  by_cases c6 : x = 2 ∧ y = 2
  · rw [if_pos c6] at h
    have h9 := (Prod.mk.inj (Option.some.inj h)).1
    omega
  rw [if_neg c6] at h
  by_cases c7 : x = 2 ∧ y = 3
  · rw [if_pos c7] at h
    have h9 := (Prod.mk.inj (Option.some.inj h)).1
    omega
  rw [if_neg c7] at h
  by_cases c8 : x = 2 ∧ y = 4
  · rw [if_pos c8] at h
    have h9 := (Prod.mk.inj (Option.some.inj h)).1
    omega
  rw [if_neg c8] at h
  by_cases c9 : x = 2 ∧ y = 5
  · rw [if_pos c9] at h
    have h9 := (Prod.mk.inj (Option.some.inj h)).1
    omega
  rw [if_neg c9] at h
  by_cases c10 : x = 2 ∧ y = 6
  · rw [if_pos c10] at h
    have h9 := (Prod.mk.inj (Option.some.inj h)).1
    omega
  rw [if_neg c10] at h
  by_cases c11 : x = 3 ∧ y = 0
  · rw [if_pos c11] at h
    have h9 := (Prod.mk.inj (Option.some.inj h)).1
    omega
  rw [if_neg c11] at h
  by_cases c12 : x = 3 ∧ y = 1
  · rw [if_pos c12] at h
    have h9 := (Prod.mk.inj (Option.some.inj h)).1
    exact c12
  rw [if_neg c12] at h
  by_cases c13 : x = 3 ∧ y = 2
  · rw [if_pos c13] at h
    have h9 := (Prod.mk.inj (Option.some.inj h)).1
    omega
  rw [if_neg c13] at h
  by_cases c14 : x = 3 ∧ y = 3
  · rw [if_pos c14] at h
    have h9 := (Prod.mk.inj (Option.some.inj h)).1
    omega
  rw [if_neg c14] at h
  cases h
theorem opOf_inv13 {x y : Int} {fn : Nat} (h : opOf x y = some (28, fn)) : x = 3 ∧ y = 2 := by
  unfold opOf at h
  by_cases c0 : x = 1 ∧ y = 0
  · rw [if_pos c0] at h
    have h9 := (Prod.mk.inj (Option.some.inj h)).1
    omega
  rw [if_neg c0] at h
  by_cases c1 : x = 1 ∧ y = 1
  · rw [if_pos c1] at h
    have h9 := (Prod.mk.inj (Option.some.inj h)).1
    omega
  rw [if_neg c1] at h
  by_cases c2 : x = 1 ∧ y = 2
  · rw [if_pos c2] at h
    have h9 := (Prod.mk.inj (Option.some.inj h)).1
    omega
  rw [if_neg c2] at h
  by_cases c3 : x = 1 ∧ y = 3
  · rw [if_pos c3] at h
    have h9 := (Prod.mk.inj (Option.some.inj h)).1
    omega
  rw [if_neg c3] at h
  by_cases c4 : x = 2 ∧ y = 0
  · rw [if_pos c4] at h
    have h9 := (Prod.mk.inj (Option.some.inj h)).1
    omega
  rw [if_neg c4] at h
  by_cases c5 : x = 2 ∧ y = 1
  · rw [if_pos c5] at h
    have h9 := (Prod.mk.inj (Option.some.inj h)).1
    omega
  rw [if_neg c5] at h
  by_cases c6 : x = 2 ∧ y = 2
  · rw [if_pos c6] at h
    have h9 := (Prod.mk.inj (Option.some.inj h)).1
    omega
  rw [if_neg c6] at h
  by_cases c7 : x = 2 ∧ y = 3
  · rw [if_pos c7] at h
    have h9 := (Prod.mk.inj (Option.some.inj h)).1
    omega
  rw [if_neg c7] at h
  by_cases c8 : x = 2 ∧ y = 4
  · rw [if_pos c8] at h
    have h9 := (Prod.mk.inj (Option.some.inj h)).1
    omega
  rw [if_neg c8] at h
  by_cases c9 : x = 2 ∧ y = 5
  · rw [if_pos c9] at h
    have h9 := (Prod.mk.inj (Option.some.inj h)).1
    omega
  rw [if_neg c9] at h
  by_cases c10 : x = 2 ∧ y = 6
  · rw [if_pos c10] at h
    have h9 := (Prod.mk.inj (Option.some.inj h)).1
    omega
  rw [if_neg c10] at h
  by_cases c11 : x = 3 ∧ y = 0
  · rw [if_pos c11] at h
    have h9 := (Prod.mk.inj (Option.some.inj h)).1
    omega
  rw [if_neg c11] at h
  by_cases c12 : x = 3 ∧ y = 1
  · rw [if_pos c12] at h
    have h9 := (Prod.mk.inj (Option.some.inj h)).1
    omega
  rw [if_neg c12] at h
  by_cases c13 : x = 3 ∧ y = 2
  · rw [if_pos c13] at h
    have h9 := (Prod.mk.inj (Option.some.inj h)).1
    exact c13
  rw [if_neg c13] at h
  by_cases c14 : x = 3 ∧ y = 3
  · rw [if_pos c14] at h
    have h9 := (Prod.mk.inj (Option.some.inj h)).1
    omega
  rw [if_neg c14] at h
  cases h
theorem opOf_inv14 {x y : Int} {fn : Nat} (h : opOf x y = some (30, fn)) : x = 3 ∧ y = 3 := by
  unfold opOf at h
  by_cases c0 : x = 1 ∧ y = 0
  · rw [if_pos c0] at h
    have h9 := (Prod.mk.inj (Option.some.inj h)).1
    omega
  rw [if_neg c0] at h
  by_cases c1 : x = 1 ∧ y = 1
  · rw [if_pos c1] at h
    have h9 := (Prod.mk.inj (Option.some.inj h)).1
    omega
  rw [if_neg c1] at h
  by_cases c2 : x = 1 ∧ y = 2
  · rw [if_pos c2] at h
    have h9 := (Prod.mk.inj (Option.some.inj h)).1
    omega
  rw [if_neg c2] at h
  by_cases c3 : x = 1 ∧ y = 3
  · rw [if_pos c3] at h
    have h9 := (Prod.mk.inj (Option.some.inj h)).1
    omega
  rw [if_neg c3] at h
  by_cases c4 : x = 2 ∧ y = 0
  · rw [if_pos c4] at h
    have h9 := (Prod.mk.inj (Option.some.inj h)).1
    omega
  rw [if_neg c4] at h
  by_cases c5 : x = 2 ∧ y = 1
  · rw [if_pos c5] at h
    have h9 := (Prod.mk.inj (Option.some.inj h)).1
    omega
  rw [if_neg c5] at h
  by_cases c6 : x = 2 ∧ y = 2
  · rw [if_pos c6] at h
    have h9 := (Prod.mk.inj (Option.some.inj h)).1
    omega
  rw [if_neg c6] at h
  by_cases c7 : x = 2 ∧ y = 3
  · rw [if_pos c7] at h
    have h9 := (Prod.mk.inj (Option.some.inj h)).1
    omega
  rw [if_neg c7] at h
  by_cases c8 : x = 2 ∧ y = 4
  · rw [if_pos c8] at h
    have h9 := (Prod.mk.inj (Option.some.inj h)).1
    omega
  rw [if_neg c8] at h
  by_cases c9 : x = 2 ∧ y = 5
  · rw [if_pos c9] at h
    have h9 := (Prod.mk.inj (Option.some.inj h)).1
    omega
  rw [if_neg c9] at h
  by_cases c10 : x = 2 ∧ y = 6
  · rw [if_pos c10] at h
    have h9 := (Prod.mk.inj (Option.some.inj h)).1
    omega
  rw [if_neg c10] at h
  by_cases c11 : x = 3 ∧ y = 0
  · rw [if_pos c11] at h
    have h9 := (Prod.mk.inj (Option.some.inj h)).1
    omega
  rw [if_neg c11] at h
  by_cases c12 : x = 3 ∧ y = 1
  · rw [if_pos c12] at h
    have h9 := (Prod.mk.inj (Option.some.inj h)).1
    omega
  rw [if_neg c12] at h
  by_cases c13 : x = 3 ∧ y = 2
  · rw [if_pos c13] at h
    have h9 := (Prod.mk.inj (Option.some.inj h)).1
    omega
  rw [if_neg c13] at h
  by_cases c14 : x = 3 ∧ y = 3
  · rw [if_pos c14] at h
    have h9 := (Prod.mk.inj (Option.some.inj h)).1
    exact c14
  rw [if_neg c14] at h
  cases h
theorem tblL_none (L : Array Bool) (h : ∀ i, i ∈ acsK → L.getD i false = false) : tblL L = fun _ _ => none := by
  funext k p
  unfold tblL
  cases ho : opOf k p with
  | none => rfl
  | some z =>
    obtain ⟨j, fn⟩ := z
    simp [h j (opOf_mem ho)]
theorem tblL_0 (L : Array Bool) (hs : L.size = 33) : tblL (L.setIfInBounds 2 true) = fun x y => if x = 1 ∧ y = 0 then some 39 else tblL L x y := by
  funext x y
  unfold tblL
  by_cases e : x = 1 ∧ y = 0
  · obtain ⟨rfl, rfl⟩ := e
    rw [if_pos ⟨rfl, rfl⟩, show opOf 1 0 = some (2, 39) from rfl]
    simp only [getD_set_at L true false (show 2 < L.size by omega), if_true]
  · rw [if_neg e]
    cases ho : opOf x y with
    | none => rfl
    | some z =>
      obtain ⟨j, fn⟩ := z
      have hj : 2 ≠ j := by
        rintro rfl
        exact e (opOf_inv0 ho)
      simp only [getD_set_at L true false (show 2 < L.size by omega), if_neg hj]

theorem tblL_1 (L : Array Bool) (hs : L.size = 33) : tblL (L.setIfInBounds 4 true) = fun x y => if x = 1 ∧ y = 1 then some 40 else tblL L x y := by
  funext x y
  unfold tblL
  by_cases e : x = 1 ∧ y = 1
  · obtain ⟨rfl, rfl⟩ := e
    rw [if_pos ⟨rfl, rfl⟩, show opOf 1 1 = some (4, 40) from rfl]
    simp only [getD_set_at L true false (show 4 < L.size by omega), if_true]
  · rw [if_neg e]
    cases ho : opOf x y with
    | none => rfl
    | some z =>
      obtain ⟨j, fn⟩ := z
      have hj : 4 ≠ j := by
        rintro rfl
        exact e (opOf_inv1 ho)
      simp only [getD_set_at L true false (show 4 < L.size by omega), if_neg hj]

theorem tblL_2 (L : Array Bool) (hs : L.size = 33) : tblL (L.setIfInBounds 6 true) = fun x y => if x = 1 ∧ y = 2 then some 41 else tblL L x y := by
  funext x y
  unfold tblL
  by_cases e : x = 1 ∧ y = 2
  · obtain ⟨rfl, rfl⟩ := e
    rw [if_pos ⟨rfl, rfl⟩, show opOf 1 2 = some (6, 41) from rfl]
    simp only [getD_set_at L true false (show 6 < L.size by omega), if_true]
  · rw [if_neg e]
    cases ho : opOf x y with
    | none => rfl
    | some z =>
      obtain ⟨j, fn⟩ := z
      have hj : 6 ≠ j := by
        rintro rfl
        exact e (opOf_inv2 ho)
      simp only [getD_set_at L true false (show 6 < L.size by omega), if_neg hj]

theorem tblL_3 (L : Array Bool) (hs : L.size = 33) : tblL (L.setIfInBounds 8 true) = fun x y => if x = 1 ∧ y = 3 then some 42 else tblL L x y := by
  funext x y
  unfold tblL
  by_cases e : x = 1 ∧ y = 3
  · obtain ⟨rfl, rfl⟩ := e
    rw [if_pos ⟨rfl, rfl⟩, show opOf 1 3 = some (8, 42) from rfl]
    simp only [getD_set_at L true false (show 8 < L.size by omega), if_true]
  · rw [if_neg e]
    cases ho : opOf x y with
    | none => rfl
    | some z =>
      obtain ⟨j, fn⟩ := z
      have hj : 8 ≠ j := by
        rintro rfl
        exact e (opOf_inv3 ho)
      simp only [getD_set_at L true false (show 8 < L.size by omega), if_neg hj]

theorem tblL_4 (L : Array Bool) (hs : L.size = 33) : tblL (L.setIfInBounds 10 true) = fun x y => if x = 2 ∧ y = 0 then some 43 else tblL L x y := by
  funext x y
  unfold tblL
  by_cases e : x = 2 ∧ y = 0
  · obtain ⟨rfl, rfl⟩ := e
    rw [if_pos ⟨rfl, rfl⟩, show opOf 2 0 = some (10, 43) from rfl]
    simp only [getD_set_at L true false (show 10 < L.size by omega), if_true]
  · rw [if_neg e]
    cases ho : opOf x y with
    | none => rfl
    | some z =>
      obtain ⟨j, fn⟩ := z
      have hj : 10 ≠ j := by
        rintro rfl
        exact e (opOf_inv4 ho)
      simp only [getD_set_at L true false (show 10 < L.size by omega), if_neg hj]

theorem tblL_5 (L : Array Bool) (hs : L.size = 33) : tblL (L.setIfInBounds 12 true) = fun x y => if x = 2 ∧ y = 1 then some 44 else tblL L x y := by
  funext x y
  unfold tblL
  by_cases e : x = 2 ∧ y = 1
  · obtain ⟨rfl, rfl⟩ := e
    rw [if_pos ⟨rfl, rfl⟩, show opOf 2 1 = some (12, 44) from rfl]
    simp only [getD_set_at L true false (show 12 < L.size by omega), if_true]
  · rw [if_neg e]
    cases ho : opOf x y with
    | none => rfl
    | some z =>
      obtain ⟨j, fn⟩ := z
      have hj : 12 ≠ j := by
        rintro rfl
        exact e (opOf_inv5 ho)
      simp only [getD_set_at L true false (show 12 < L.size by omega), if_neg hj]

theorem tblL_6 (L : Array Bool) (hs : L.size = 33) : tblL (L.setIfInBounds 14 true) = fun x y => if x = 2 ∧ y = 2 then some 45 else tblL L x y := by
  funext x y
  unfold tblL
  by_cases e : x = 2 ∧ y = 2
  · obtain ⟨rfl, rfl⟩ := e
    rw [if_pos ⟨rfl, rfl⟩, show opOf 2 2 = some (14, 45) from rfl]
    simp only [getD_set_at L true false (show 14 < L.size by omega), if_true]
  · rw [if_neg e]
    cases ho : opOf x y with
    | none => rfl
    | some z =>
      obtain ⟨j, fn⟩ := z
      have hj : 14 ≠ j := by
        rintro rfl
        exact e (opOf_inv6 ho)
      simp only [getD_set_at L true false (show 14 < L.size by omega), if_neg hj]

theorem tblL_7 (L : Array Bool) (hs : L.size = 33) : tblL (L.setIfInBounds 16 true) = fun x y => if x = 2 ∧ y = 3 then some 46 else tblL L x y := by
  funext x y
  unfold tblL
  by_cases e : x = 2 ∧ y = 3
  · obtain ⟨rfl, rfl⟩ := e
    rw [if_pos ⟨rfl, rfl⟩, show opOf 2 3 = some (16, 46) from rfl]
    simp only [getD_set_at L true false (show 16 < L.size by omega), if_true]
  · rw [if_neg e]
    cases ho : opOf x y with
    | none => rfl
    | some z =>
      obtain ⟨j, fn⟩ := z
      have hj : 16 ≠ j := by
        rintro rfl
        exact e (opOf_inv7 ho)
      simp only [getD_set_at L true false (show 16 < L.size by omega), if_neg hj]

theorem tblL_8 (L : Array Bool) (hs : L.size = 33) : tblL (L.setIfInBounds 18 true) = fun x y => if x = 2 ∧ y = 4 then some 47 else tblL L x y := by
  funext x y
  unfold tblL
  by_cases e : x = 2 ∧ y = 4
  · obtain ⟨rfl, rfl⟩ := e
    rw [if_pos ⟨rfl, rfl⟩, show opOf 2 4 = some (18, 47) from rfl]
    simp only [getD_set_at L true false (show 18 < L.size by omega), if_true]
  · rw [if_neg e]
    cases ho : opOf x y with
    | none => rfl
    | some z =>
      obtain ⟨j, fn⟩ := z
      have hj : 18 ≠ j := by
        rintro rfl
        exact e (opOf_inv8 ho)
      simp only [getD_set_at L true false (show 18 < L.size by omega), if_neg hj]

theorem tblL_9 (L : Array Bool) (hs : L.size = 33) : tblL (L.setIfInBounds 20 true) = fun x y => if x = 2 ∧ y = 5 then some 48 else tblL L x y := by
  funext x y
  unfold tblL
  by_cases e : x = 2 ∧ y = 5
  · obtain ⟨rfl, rfl⟩ := e
    rw [if_pos ⟨rfl, rfl⟩, show opOf 2 5 = some (20, 48) from rfl]
    simp only [getD_set_at L true false (show 20 < L.size by omega), if_true]
  · rw [if_neg e]
    cases ho : opOf x y with
    | none => rfl
    | some z =>
      obtain ⟨j, fn⟩ := z
      have hj : 20 ≠ j := by
        rintro rfl
        exact e (opOf_inv9 ho)
      simp only [getD_set_at L true false (show 20 < L.size by omega), if_neg hj]

theorem tblL_10 (L : Array Bool) (hs : L.size = 33) : tblL (L.setIfInBounds 22 true) = fun x y => if x = 2 ∧ y = 6 then some 49 else tblL L x y := by
  funext x y
  unfold tblL
  by_cases e : x = 2 ∧ y = 6
  · obtain ⟨rfl, rfl⟩ := e
    rw [if_pos ⟨rfl, rfl⟩, show opOf 2 6 = some (22, 49) from rfl]
    simp only [getD_set_at L true false (show 22 < L.size by omega), if_true]
  · rw [if_neg e]
    cases ho : opOf x y with
    | none => rfl
    | some z =>
      obtain ⟨j, fn⟩ := z
      have hj : 22 ≠ j := by
        rintro rfl
        exact e (opOf_inv10 ho)
      simp only [getD_set_at L true false (show 22 < L.size by omega), if_neg hj]

theorem tblL_11 (L : Array Bool) (hs : L.size = 33) : tblL (L.setIfInBounds 24 true) = fun x y => if x = 3 ∧ y = 0 then some 39 else tblL L x y := by
  funext x y
  unfold tblL
  by_cases e : x = 3 ∧ y = 0
  · obtain ⟨rfl, rfl⟩ := e
    rw [if_pos ⟨rfl, rfl⟩, show opOf 3 0 = some (24, 39) from rfl]
    simp only [getD_set_at L true false (show 24 < L.size by omega), if_true]
  · rw [if_neg e]
    cases ho : opOf x y with
    | none => rfl
    | some z =>
      obtain ⟨j, fn⟩ := z
      have hj : 24 ≠ j := by
        rintro rfl
        exact e (opOf_inv11 ho)
      simp only [getD_set_at L true false (show 24 < L.size by omega), if_neg hj]

theorem tblL_12 (L : Array Bool) (hs : L.size = 33) : tblL (L.setIfInBounds 26 true) = fun x y => if x = 3 ∧ y = 1 then some 50 else tblL L x y := by
  funext x y
  unfold tblL
  by_cases e : x = 3 ∧ y = 1
  · obtain ⟨rfl, rfl⟩ := e
    rw [if_pos ⟨rfl, rfl⟩, show opOf 3 1 = some (26, 50) from rfl]
    simp only [getD_set_at L true false (show 26 < L.size by omega), if_true]
  · rw [if_neg e]
    cases ho : opOf x y with
    | none => rfl
    | some z =>
      obtain ⟨j, fn⟩ := z
      have hj : 26 ≠ j := by
        rintro rfl
        exact e (opOf_inv12 ho)
      simp only [getD_set_at L true false (show 26 < L.size by omega), if_neg hj]

theorem tblL_13 (L : Array Bool) (hs : L.size = 33) : tblL (L.setIfInBounds 28 true) = fun x y => if x = 3 ∧ y = 2 then some 51 else tblL L x y := by
  funext x y
  unfold tblL
  by_cases e : x = 3 ∧ y = 2
  · obtain ⟨rfl, rfl⟩ := e
    rw [if_pos ⟨rfl, rfl⟩, show opOf 3 2 = some (28, 51) from rfl]
    simp only [getD_set_at L true false (show 28 < L.size by omega), if_true]
  · rw [if_neg e]
    cases ho : opOf x y with
    | none => rfl
    | some z =>
      obtain ⟨j, fn⟩ := z
      have hj : 28 ≠ j := by
        rintro rfl
        exact e (opOf_inv13 ho)
      simp only [getD_set_at L true false (show 28 < L.size by omega), if_neg hj]

theorem tblL_14 (L : Array Bool) (hs : L.size = 33) : tblL (L.setIfInBounds 30 true) = fun x y => if x = 3 ∧ y = 3 then some 52 else tblL L x y := by
  funext x y
  unfold tblL
  by_cases e : x = 3 ∧ y = 3
  · obtain ⟨rfl, rfl⟩ := e
    rw [if_pos ⟨rfl, rfl⟩, show opOf 3 3 = some (30, 52) from rfl]
    simp only [getD_set_at L true false (show 30 < L.size by omega), if_true]
  · rw [if_neg e]
    cases ho : opOf x y with
    | none => rfl
    | some z =>
      obtain ⟨j, fn⟩ := z
      have hj : 30 ≠ j := by
        rintro rfl
        exact e (opOf_inv14 ho)
      simp only [getD_set_at L true false (show 30 < L.size by omega), if_neg hj]

end Go.Proofs.Ytfmiamjbhlglbaa

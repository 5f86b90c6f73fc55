/-
  For the law PollEdges: maps that have just what descriptors say: who waits (map[int]int64), which are Ready, which Open (map[int]bool); how edges are counted.
-/
import Derived.Test.YtndbaoiabmldgaaLv
import Derived.Maps.Range
import Derived.Maps.RangeWalk
namespace Go.Proofs.Ytndbaoiabmldgaa
open Go.RowKit Go.Maps

/-- A function, at one place another one. -/
def upd (f : Int → Bool) (x : Int) (v : Bool) (y : Int) : Bool := if y = x then v else f y
theorem Try.zeroBool (w : World) : (zeroValue 4).run Try.prog w = .ok (.bool false) w := by kernel_rfl
theorem Try.zeroI64 (w : World) : (zeroValue 2).run Try.prog w = .ok (.int .i64 0) w := by kernel_rfl
theorem Try.lawInt : Keyed Try.prog 3 := int_keyed Try.underlying3
theorem keyInt {x : Int} (h : Fit x) : keyOf Try.prog 3 (.int .i64 x) = some (.int .i64 x) := keyOf_int_mk Try.underlying3 (wf_of_fit h)

/-- In block b lies a map that reads as f (n entries at the most). -/
def FMap (w : World) (b n : Nat) (f : Int → Bool) : Prop :=
  ∃ D : DataW Unit, w.ownsMap Try.prog 3 (plainElem Try.prog 4) b n D ∧ ∀ x, D.atKey (.int .i64 x) (.lit (.bool false)) = .lit (.bool (f x))
section
variable {w w' : World} {b n : Nat} {f g : Int → Bool}
theorem FMap.made (w : World) : FMap (w.alloc (.map #[] 0)) w.heap.size 0 fun _ => false :=
  ⟨.map [], World.ownsMap_made w _ _ _, fun _ => rfl⟩
theorem FMap.same (h : FMap w b n f) (e : ∀ x, f x = g x) : FMap w b n g := by
  obtain ⟨D, hD, hf⟩ := h
  exact ⟨D, hD, fun x => by rw [hf x, e x]⟩
theorem FMap.grown (h : FMap w b n f) {row : Option Nat} (hg : w.grownBy w' row) (hne : some b ≠ row) : FMap w' b n f := by
  obtain ⟨D, hD, hf⟩ := h
  exact ⟨D, hD.kept hg hne, hf⟩
theorem FMap.below (h : FMap w b n f) (hb : Below w.heap.size w w') : FMap w' b n f :=
  h.grown (row := none) ⟨hb.os, hb.tape, hb.output, hb.size, fun k hk _ => hb.block k hk⟩ (by simp)
theorem FMap.mono (h : FMap w b n f) {n' : Nat} (hn : n ≤ n') : FMap w b n' f := by
  obtain ⟨D, hD, hf⟩ := h
  exact ⟨D, hD.mono hn, hf⟩
theorem FMap.lt (h : FMap w b n f) : b < w.heap.size := by obtain ⟨D, hD, _⟩ := h; exact hD.lt
theorem plainElem_bool_inv {v : Value} {z : DataW Unit × List MemPlace} (h : plainElem Try.prog 4 v = some z) : ∃ x, v = .bool x ∧ z = (.lit (.bool x), []) := by
  unfold plainElem at h
  rw [Try.underlying4] at h
  cases v <;> simp at h
  exact ⟨_, rfl, h.symm⟩
theorem FMap.lookup (h : FMap w b n f) {x : Int} (hx : Fit x) : (Instr.lookup 45 (.map (some b)) (.int .i64 x) false).run Try.prog w = .ok (.bool (f x)) w := by
  obtain ⟨D, hD, hf⟩ := h
  obtain ⟨v, ps, hrun, hv⟩ := hD.lookup Try.lawInt Try.underlying45 (Try.zeroBool w) (plainElem_bool Try.underlying4 false) (keyInt hx)
  obtain ⟨y, rfl, hy⟩ := plainElem_bool_inv hv
  simp only [Prod.mk.injEq] at hy
  rw [hf x] at hy
  have : f x = y := by injection hy.1 with e; injection e
  rw [hrun, this]
theorem FMap.update (h : FMap w b n f) {x : Int} (hx : Fit x) (v : Bool) (hn : n < 100000) : ∃ w', (Instr.mapUpdate 45 (.map (some b)) (.int .i64 x) (.bool v)).run Try.prog w = .ok () w' ∧ FMap w' b (n + 1) (upd f x v) ∧ w.grownBy w' (some b) := by
  obtain ⟨D, hD, hf⟩ := h
  obtain ⟨w', hrun, h1, h2⟩ := hD.update Try.lawInt Try.underlying45 (by unfold maxLen; omega) (keyInt hx) (plainElem_bool Try.underlying4 v)
  refine ⟨w', hrun, ⟨_, h1, fun y => ?_⟩, h2⟩
  by_cases e : y = x
  · subst e
    rw [atKey_put_same hD.isMap (by trivial)]; simp [upd]
  · rw [atKey_put_other (by intro e'; injection e' with _ e'; exact e e'), hf y]; simp [upd, e]
theorem FMap.del (h : FMap w b n f) {x : Int} (hx : Fit x) (ty : TypeId) : ∃ w', (Builtin.delete_ #[45, 3] ty #[.map (some b), .int .i64 x]).run Try.prog w = .ok (.tuple #[]) w' ∧ FMap w' b n (upd f x false) ∧ w.grownBy w' (some b) := by
  obtain ⟨D, hD, hf⟩ := h
  obtain ⟨w', hrun, h1, h2⟩ := hD.drop Try.lawInt Try.underlying45 (keyInt hx) ty
  refine ⟨w', hrun, ⟨_, h1, fun y => ?_⟩, h2.grown⟩
  by_cases e : y = x
  · subst e
    rw [atKey_del_same]; simp [upd]
  · rw [atKey_del_other (by intro e'; injection e' with _ e'; exact e e'), hf y]; simp [upd, e]
/-- A slice of descriptors does not lie in a map's block. -/
theorem Dss.pastF (h : FMap w b n f) {A : Option Addr} {m c : Nat} {p : List Ds} (hp : Dss w A m c p) (hg : w.grownBy w' (some b)) : Dss w' A m c p := by
  obtain ⟨D, ⟨es, clock, hb, _⟩, _⟩ := h
  refine ⟨hp.1, hp.2.1, hp.2.2.1, fun hn => ?_⟩
  obtain ⟨bA, o, e, hlt, hc⟩ := hp.2.2.2 hn
  have hne : bA ≠ b := by
    rintro rfl
    have := (hc 0 hn).1
    simp [World.cell?, hb] at this
  have hk : ∀ q, w'.cell? ⟨bA, q, none⟩ = w.cell? ⟨bA, q, none⟩ := fun q => by
    have := hg.block bA hlt (by intro e; injection e with e; exact hne e)
    simp [World.cell?, this]
  refine ⟨bA, o, e, Nat.lt_of_lt_of_le hlt hg.size, fun j hj => ?_⟩
  obtain ⟨h0, h1, h2⟩ := hc j hj
  exact ⟨(hk _).trans h0, (hk _).trans h1, (hk _).trans h2⟩
end

/-- Those of whom a bit is set. -/
def bitP (g : Ds → Bool) (p : List Ds) (x : Int) : Prop := ∃ k : Nat, x = (k : Int) ∧ k < p.length ∧ g (dth p k) = true
noncomputable instance (g : Ds → Bool) (p : List Ds) (x : Int) : Decidable (bitP g p x) := Classical.propDecidable _
noncomputable def bitF (g : Ds → Bool) (p : List Ds) (x : Int) : Bool := decide (bitP g p x)
theorem bitF_at {g : Ds → Bool} {p : List Ds} {k : Nat} (hk : k < p.length) : bitF g p (k : Int) = g (dth p k) := by
  unfold bitF
  cases h : g (dth p k) with
  | true => exact decide_eq_true ⟨k, rfl, hk, h⟩
  | false =>
    refine decide_eq_false ?_
    rintro ⟨j, e, hj, hb⟩
    have e2 : k = j := by omega
    subst e2
    rw [h] at hb
    cases hb
theorem bitF_set {g : Ds → Bool} {p : List Ds} {k : Nat} (hk : k < p.length) (d : Ds) (x : Int) : upd (bitF g p) (k : Int) (g d) x = bitF g (p.set k d) x := by
  unfold upd
  by_cases e : x = (k : Int)
  · rw [if_pos e, e, bitF_at (by simpa using hk), dth_set_same hk]
  · rw [if_neg e]
    unfold bitF
    rw [decide_eq_decide]
    unfold bitP
    constructor
    · rintro ⟨j, rfl, hj, hb⟩
      exact ⟨j, rfl, by simpa using hj, by rw [dth_set_ne (by omega)]; exact hb⟩
    · rintro ⟨j, rfl, hj, hb⟩
      rw [dth_set_ne (by omega)] at hb
      exact ⟨j, rfl, by simpa using hj, hb⟩
theorem bitF_keep {g : Ds → Bool} {p : List Ds} {k : Nat} (hk : k < p.length) {d : Ds} (h : g (dth p k) = g d) (x : Int) : bitF g p x = bitF g (p.set k d) x := by
  rw [← bitF_set hk d x, ← h]
  unfold upd
  split
  · rename_i e; rw [e, bitF_at hk]
  · rfl
def opB (x : Ds) : Bool := x.1
def rdB (x : Ds) : Bool := x.2.1

/-- Where somebody waits. -/
def wIn (p : List Ds) (x : Int) : Prop := ∃ k : Nat, x = (k : Int) ∧ k < p.length ∧ 0 ≤ who p k
noncomputable instance (p : List Ds) (x : Int) : Decidable (wIn p x) := Classical.propDecidable _
structure WaD (D : DataW Unit) (p : List Ds) : Prop where
  has : ∀ x, Maps.has D (.int .i64 x) = decide (wIn p x)
  at_ : ∀ k : Nat, k < p.length → 0 ≤ who p k → D.atKey (.int .i64 (k : Int)) (.lit (.int .i64 0)) = .lit (.int .i64 (who p k))
  size : Maps.size D = (waitL p).length
def WaM (w : World) (b n : Nat) (p : List Ds) : Prop :=
  ∃ D : DataW Unit, w.ownsMap Try.prog 3 (plainElem Try.prog 2) b n D ∧ WaD D p
theorem wIn_at {p : List Ds} {k : Nat} (hk : k < p.length) : wIn p (k : Int) ↔ 0 ≤ who p k := ⟨fun ⟨j, e, hj, h⟩ => (show k = j by omega) ▸ h, fun h => ⟨k, rfl, hk, h⟩⟩
theorem wIn_set {p : List Ds} {k : Nat} {d : Ds} {x : Int} (h : x ≠ (k : Int)) : wIn (p.set k d) x ↔ wIn p x := by
  unfold wIn who
  constructor
  · rintro ⟨j, rfl, hj, h0⟩
    rw [dth_set_ne (by omega)] at h0
    exact ⟨j, rfl, by simpa using hj, h0⟩
  · rintro ⟨j, rfl, hj, h0⟩
    exact ⟨j, rfl, by simpa using hj, by rw [dth_set_ne (by omega)]; exact h0⟩
theorem who_set_same {p : List Ds} {k : Nat} (hk : k < p.length) (d : Ds) : who (p.set k d) k = d.2.2 := by unfold who; rw [dth_set_same hk]
theorem who_set_ne {p : List Ds} {k j : Nat} (h : j ≠ k) (d : Ds) : who (p.set k d) j = who p j := by unfold who; rw [dth_set_ne h]
theorem waitL_len_set {p : List Ds} {k : Nat} (hk : k < p.length) (d : Ds) : (waitL (p.set k d)).length + (if 0 ≤ who p k then 1 else 0) = (waitL p).length + (if 0 ≤ d.2.2 then 1 else 0) := by
  rw [waitL_set hk, waitL_split hk, List.length_append, List.length_append]
  by_cases h1 : 0 ≤ who p k <;> by_cases h2 : 0 ≤ d.2.2 <;> simp [h1, h2] <;> omega
section
variable {w w' : World} {b n : Nat} {p : List Ds}
theorem WaM.made (w : World) (h : ∀ k, k < p.length → ¬ 0 ≤ who p k) : WaM (w.alloc (.map #[] 0)) w.heap.size 0 p := by
  refine ⟨.map [], World.ownsMap_made w _ _ _, fun x => ?_, fun k hk h0 => absurd h0 (h k hk), ?_⟩
  · symm; exact decide_eq_false (fun ⟨j, _, hj, h0⟩ => h j hj h0)
  · have : waitL p = [] := by
      rcases hq : waitL p with _ | ⟨y, ys⟩
      · rfl
      · obtain ⟨h0, j, hj, e⟩ := waitL_mem.1 (show y ∈ waitL p by rw [hq]; simp)
        exact absurd (by rw [e]; exact h0) (h j hj)
    rw [this]; rfl
theorem WaM.grown (h : WaM w b n p) {row : Option Nat} (hg : w.grownBy w' row) (hne : some b ≠ row) : WaM w' b n p := by
  obtain ⟨D, hD, hf⟩ := h
  exact ⟨D, hD.kept hg hne, hf⟩
theorem WaM.below (h : WaM w b n p) (hb : Below w.heap.size w w') : WaM w' b n p :=
  h.grown (row := none) ⟨hb.os, hb.tape, hb.output, hb.size, fun k hk _ => hb.block k hk⟩ (by simp)
theorem WaM.lt (h : WaM w b n p) : b < w.heap.size := by obtain ⟨D, hD, _⟩ := h; exact hD.lt
theorem WaM.mono (h : WaM w b n p) {n' : Nat} (hn : n ≤ n') : WaM w b n' p := by
  obtain ⟨D, hD, hf⟩ := h
  exact ⟨D, hD.mono hn, hf⟩
/-- The same who wait. -/
theorem WaM.keep (h : WaM w b n p) {k : Nat} (hk : k < p.length) {d : Ds} (h1 : ¬ 0 ≤ who p k) (h2 : ¬ 0 ≤ d.2.2) : WaM w b n (p.set k d) := by
  obtain ⟨D, hD, hf⟩ := h
  refine ⟨D, hD, fun x => ?_, fun j hj h0 => ?_, ?_⟩
  · rw [hf.has x, decide_eq_decide]
    by_cases e : x = (k : Int)
    · subst e
      rw [wIn_at hk, wIn_at (by simpa using hk), who_set_same hk]
      exact ⟨fun q => absurd q h1, fun q => absurd q h2⟩
    · exact (wIn_set e).symm
  · by_cases e : j = k
    · subst e; rw [who_set_same hk] at h0; exact absurd h0 h2
    · rw [who_set_ne e] at h0 ⊢
      exact hf.at_ j (by simpa using hj) h0
  · have := waitL_len_set hk d
    rw [if_neg h1, if_neg h2] at this
    rw [hf.size]
    omega
/-- 'who, waits := wait[i]'. -/
theorem WaM.get (h : WaM w b n p) {k : Nat} (hk : k < p.length) (hx : Fit (k : Int)) : ∃ v, (Instr.lookup 44 (.map (some b)) (.int .i64 (k : Int)) true).run Try.prog w = .ok (.tuple #[.int .i64 v, .bool (decide (0 ≤ who p k))]) w ∧ (0 ≤ who p k → v = who p k) := by
  obtain ⟨D, hD, hf⟩ := h
  obtain ⟨v, ps, hrun, hv⟩ := hD.look_ok Try.lawInt Try.underlying44 (Try.zeroI64 w) (plainElem_int Try.underlying2 (wf_of_fit ⟨by decide, by decide⟩)) (keyInt hx)
  obtain ⟨c, rfl, hc, _⟩ := plainElem_int_inv Try.underlying2 hv
  simp only [Prod.mk.injEq] at hc
  refine ⟨c, by rw [hrun, hf.has, decide_eq_decide.2 (wIn_at hk)], fun h0 => ?_⟩
  have h1 := hf.at_ k hk h0
  rw [hc.1] at h1
  simpa using h1
theorem WaM.put (h : WaM w b n p) {k : Nat} (hk : k < p.length) (hx : Fit (k : Int)) {d : Ds} (h1 : ¬ 0 ≤ who p k) (h2 : 0 ≤ d.2.2) (ha : Fit d.2.2) (hn : n < 1000) :
    ∃ w', (Instr.mapUpdate 44 (.map (some b)) (.int .i64 (k : Int)) (.int .i64 d.2.2)).run Try.prog w = .ok () w' ∧ WaM w' b (n + 1) (p.set k d) ∧ w.grownBy w' (some b) := by
  obtain ⟨D, hD, hf⟩ := h
  obtain ⟨w', hrun, g1, g2⟩ := hD.update Try.lawInt Try.underlying44 (by unfold maxLen; omega) (keyInt hx) (plainElem_int Try.underlying2 (wf_of_fit ha))
  refine ⟨w', hrun, ⟨_, g1, fun y => ?_, fun j hj h0 => ?_, ?_⟩, g2⟩
  · by_cases e : y = (k : Int)
    · subst e
      rw [has_put_same hD.isMap (by trivial)]
      exact (decide_eq_true ((wIn_at (by simpa using hk)).2 (by rw [who_set_same hk]; exact h2))).symm
    · rw [has_put_other (by intro e'; injection e' with _ e'; exact e e'), hf.has y, decide_eq_decide]
      exact (wIn_set e).symm
  · by_cases e : j = k
    · subst e
      rw [atKey_put_same hD.isMap (by trivial), who_set_same hk]
    · rw [atKey_put_other (by intro e'; injection e' with _ e'; exact e (by omega)), who_set_ne e]
      rw [who_set_ne e] at h0
      exact hf.at_ j (by simpa using hj) h0
  · have := waitL_len_set hk d
    rw [if_neg h1, if_pos h2] at this
    rw [size_put (hD.tidy Try.lawInt), hf.has, decide_eq_false (fun q => h1 ((wIn_at hk).1 q)), hf.size]
    simp
    omega
theorem WaM.del (h : WaM w b n p) {k : Nat} (hk : k < p.length) (hx : Fit (k : Int)) {d : Ds} (h2 : ¬ 0 ≤ d.2.2) (ty : TypeId) :
    ∃ w', (Builtin.delete_ #[44, 3] ty #[.map (some b), .int .i64 (k : Int)]).run Try.prog w = .ok (.tuple #[]) w' ∧ WaM w' b n (p.set k d) ∧ w.grownBy w' (some b) := by
  obtain ⟨D, hD, hf⟩ := h
  obtain ⟨w', hrun, g1, g2⟩ := hD.drop Try.lawInt Try.underlying44 (keyInt hx) ty
  refine ⟨w', hrun, ⟨_, g1, fun y => ?_, fun j hj h0 => ?_, ?_⟩, g2.grown⟩
  · by_cases e : y = (k : Int)
    · subst e
      rw [has_del_same]
      exact (decide_eq_false (fun q => h2 (by have := (wIn_at (by simpa using hk)).1 q; rw [who_set_same hk] at this; exact this))).symm
    · rw [has_del_other (by intro e'; injection e' with _ e'; exact e e'), hf.has y, decide_eq_decide]
      exact (wIn_set e).symm
  · by_cases e : j = k
    · subst e
      rw [who_set_same hk] at h0; exact absurd h0 h2
    · rw [atKey_del_other (by intro e'; injection e' with _ e'; exact e (by omega)), who_set_ne e]
      rw [who_set_ne e] at h0
      exact hf.at_ j (by simpa using hj) h0
  · have hs := size_del (k := .int .i64 (k : Int)) (hD.tidy Try.lawInt)
    have := waitL_len_set hk d
    rw [if_neg h2] at this
    rw [hf.has, hf.size, decide_eq_decide.2 (wIn_at hk)] at hs
    by_cases h0 : 0 ≤ who p k
    · rw [if_pos h0] at this
      rw [decide_eq_true h0, if_pos rfl] at hs
      omega
    · rw [if_neg h0] at this
      rw [decide_eq_false h0, if_neg (by decide)] at hs
      omega
theorem WaM.len (h : WaM w b n p) : (Builtin.len_ #[44] 3 #[.map (some b)]).run Try.prog w = .ok (.int .i64 ((waitL p).length : Nat)) w := by
  obtain ⟨D, hD, hf⟩ := h
  have := hD.len (ty := 3) Try.underlying44
  rw [hf.size] at this
  exact this
theorem Dss.pastW (h : WaM w b n p) {A : Option Addr} {m c : Nat} {q : List Ds} (hp : Dss w A m c q) (hg : w.grownBy w' (some b)) : Dss w' A m c q := by
  obtain ⟨D, ⟨es, clock, hb, _⟩, _⟩ := h
  refine ⟨hp.1, hp.2.1, hp.2.2.1, fun hn => ?_⟩
  obtain ⟨bA, o, e, hlt, hc⟩ := hp.2.2.2 hn
  have hne : bA ≠ b := by
    rintro rfl
    have := (hc 0 hn).1
    simp [World.cell?, hb] at this
  have hk : ∀ q, w'.cell? ⟨bA, q, none⟩ = w.cell? ⟨bA, q, none⟩ := fun q => by
    have := hg.block bA hlt (by intro e; injection e with e; exact hne e)
    simp [World.cell?, this]
  refine ⟨bA, o, e, Nat.lt_of_lt_of_le hlt hg.size, fun j hj => ?_⟩
  obtain ⟨h0, h1, h2⟩ := hc j hj
  exact ⟨(hk _).trans h0, (hk _).trans h1, (hk _).trans h2⟩
end

/-- How many are Ready. -/
def rdyN (p : List Ds) : Nat := p.countP rdB
theorem rdyN_set {p : List Ds} {k : Nat} (hk : k < p.length) (d : Ds) : rdyN (p.set k d) + (if rdB (dth p k) = true then 1 else 0) = rdyN p + (if rdB d = true then 1 else 0) := by
  unfold rdyN
  have h1 := split_at hk
  have h2 := split_at (l := p.set k d) (k := k) (by simpa using hk)
  rw [dth_set_same hk, List.take_set_of_le (Nat.le_refl k), List.drop_set_of_lt (by omega)] at h2
  rw [h2]
  conv => rhs; rw [h1]
  rw [List.countP_append, List.countP_append, List.countP_cons, List.countP_cons]
  omega
/-- What holds between two steps: edges that came, and how many went on. -/
structure StE (p : List Ds) (n k ed go : Nat) : Prop where
  ok : pollOk p
  len : p.length = n
  few : go + rdyN p ≤ ed
  few2 : ed ≤ k

/-- What a range over those who wait knows: whether one of those that came is id. -/
structure BzI (p : List Ds) (id : Int) (left : Lit → Bool) (bb : Bool) : Prop where
  yes : bb = true → ∃ k, k < p.length ∧ 0 ≤ who p k ∧ who p k = id
  no : ∀ k : Nat, k < p.length → 0 ≤ who p k → who p k = id → left (.int .i64 (k : Int)) = true ∨ bb = true
theorem BzI.start {p : List Ds} {id : Int} {D : DataW Unit} (h : WaD D p) : BzI p id (Maps.has D) false :=
  ⟨fun q => (by cases q), fun k hk h0 _ => .inl (by rw [h.has]; exact decide_eq_true ⟨k, rfl, hk, h0⟩)⟩
theorem BzI.step {p : List Ds} {id : Int} {left : Lit → Bool} {bb : Bool} (h : BzI p id left bb) {k : Nat} (hk : k < p.length) (h0 : 0 ≤ who p k) :
    BzI p id (fun x => left x && !x.sameKey (.int .i64 (k : Int))) (bb || (who p k == id)) := by
  constructor
  · intro q
    rw [Bool.or_eq_true] at q
    rcases q with q | q
    · exact h.yes q
    · exact ⟨k, hk, h0, by simpa using q⟩
  · intro j hj hj0 hje
    by_cases e : j = k
    · subst e
      exact .inr (by rw [Bool.or_eq_true]; right; simpa using hje)
    · rcases h.no j hj hj0 hje with q | q
      · left
        rw [Bool.and_eq_true]
        refine ⟨q, ?_⟩
        simp [Lit.sameKey]
        omega
      · exact .inr (by rw [q]; rfl)
theorem BzI.done {p : List Ds} {id : Int} {left : Lit → Bool} {bb : Bool} (h : BzI p id left bb) (hl : ∀ x, left x = false) : bb = decide (0 ≤ id ∧ waitsD p id) := by
  cases bb with
  | true =>
    obtain ⟨k, hk, h0, e⟩ := h.yes rfl
    exact (decide_eq_true ⟨by rw [← e]; exact h0, k, hk, e⟩).symm
  | false =>
    refine (decide_eq_false ?_).symm
    rintro ⟨h0, k, hk, e⟩
    rcases h.no k hk (by rw [e]; exact h0) e with q | q
    · rw [hl] at q; cases q
    · cases q

end Go.Proofs.Ytndbaoiabmldgaa

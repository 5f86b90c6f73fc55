import Derived.Test.YtfhlligcbpnkkaaDoorMg10
import Derived.Test.YtfhlligcbpnkkaaDoorMg5

/-
  A list without a number, where the first number is of which something is so, what DeleteFunc's row holds between two rounds: over no program (out of layer 16's words).
-/
namespace Go.Proofs.YtfhlligcbpnkkaaDoor
open Go.RowKit

/-- A list without a number. -/
def butBt (l : List Int) (x : Int) : List Int := l.filter fun y => decide (y ≠ x)
theorem nth_memBt {l : List Int} {x : Int} : x ∈ l ↔ ∃ j, j < l.length ∧ nth l j = x := by
  rw [List.mem_iff_getElem]
  exact ⟨fun ⟨j, h, e⟩ => ⟨j, h, by rw [nth_get h]; exact e⟩, fun ⟨j, h, e⟩ => ⟨j, h, by rw [nth_get h] at e; exact e⟩⟩
theorem take_nextBt {l : List Int} {k : Nat} (h : k < l.length) : l.take (k + 1) = l.take k ++ [nth l k] := by rw [nth_get h]; exact (List.take_append_getElem h).symm
theorem but_nextBt {l : List Int} {k : Nat} (h : k < l.length) (x : Int) : butBt (l.take (k + 1)) x = if nth l k = x then butBt (l.take k) x else butBt (l.take k) x ++ [nth l k] := by
  rw [take_nextBt h]
  unfold butBt
  rw [List.filter_append]
  by_cases e : nth l k = x
  · simp [e]
  · simp [e]
theorem but_lenBt (l : List Int) (x : Int) : (butBt l x).length ≤ l.length := List.length_filter_le _ _
theorem but_memBt {l : List Int} {x y : Int} : y ∈ butBt l x ↔ y ∈ l ∧ y ≠ x := by simp [butBt]
theorem but_noneBt : ∀ {l : List Int} {x : Int}, x ∉ l → butBt l x = l := fun {l x} h => by
  unfold butBt
  rw [List.filter_eq_self]
  intro y hy
  simp
  rintro rfl
  exact h hy

/-- Where the first number of a list is of which g is so: -1 if there is none. -/
def AtBt (g : Int → Bool) (l : List Int) (r : Int) : Prop :=
  (r = -1 ∧ ∀ j, j < l.length → g (nth l j) = false) ∨ ∃ k : Nat, r = (k : Int) ∧ k < l.length ∧ g (nth l k) = true ∧ ∀ j, j < k → g (nth l j) = false
theorem AtBt.has {g : Int → Bool} {l : List Int} {r : Int} (h : AtBt g l r) : decide (0 ≤ r) = l.any g := by
  rcases h with ⟨rfl, h⟩ | ⟨k, rfl, hk, h, -⟩
  · symm
    rw [show decide ((0 : Int) ≤ -1) = false from rfl, List.any_eq_false]
    intro x hx
    obtain ⟨j, hj, rfl⟩ := nth_memBt.1 hx
    rw [h j hj]
    decide
  · symm
    rw [decide_eq_true (by omega), List.any_eq_true]
    exact ⟨nth l k, nth_memBt.2 ⟨k, hk, rfl⟩, h⟩

section
variable {w : World} {A : Option Addr} {n : Nat} {zs : List Int} {bs : List Bool}
theorem Ints.at_bt (h : Ints w A n zs) {k : Nat} (hk : k < n) : ∃ b o, A = some ⟨b, o, none⟩ ∧ b < w.heap.size ∧ w.cell? ⟨b, o + k, none⟩ = some (.int .i64 (nth zs k)) := by
  obtain ⟨b, o, e, hb, hc⟩ := h.2.2.2 (by omega)
  exact ⟨b, o, e, hb, hc k hk⟩
theorem Flags.at_bt (h : Flags w A n bs) {k : Nat} (hk : k < n) : ∃ b o, A = some ⟨b, o, none⟩ ∧ b < w.heap.size ∧ w.cell? ⟨b, o + k, none⟩ = some (.bool (bth bs k)) := by
  obtain ⟨b, o, e, hb, hc⟩ := h.2.2 (by omega)
  exact ⟨b, o, e, hb, hc k hk⟩
theorem Ints.fit_bt (h : Ints w A n zs) {k : Nat} (hk : k < n) : Fit (nth zs k) := by
  have hl := h.1
  rw [nth_get (by omega)]
  exact h.2.2.1 _ (List.getElem_mem _)
end

theorem OwnI.short_bt {E : TypeId} {w : World} {base : Nat} {A : Option Addr} {c : Nat} {zs : List Int} (h : OwnI E w base A c zs) {k : Nat} (hk : k ≤ zs.length) (hA : A ≠ none) : OwnI E w base A c (zs.take k) := by
  obtain ⟨h1, h2, h3, h4⟩ := h
  have hl : (zs.take k).length = k := by rw [List.length_take]; omega
  refine ⟨by rw [hl]; omega, fun z hz => h2 z (List.mem_of_mem_take hz), by simp, ?_⟩
  rcases h4 with ⟨e, _⟩ | ⟨g, cap, cur, e, hb, hh, hc, hm, hs, ht⟩
  · injection e with e _ _
    exact absurd e hA
  · injection e with e1 e2 e3
    subst e1 e3
    refine .inr ⟨g, c, cur, by rw [hl], hb, hh, by omega, hm, hs, ?_⟩
    rw [hl, List.map_take, ← ht, List.take_take, Nat.min_eq_left (by omega), Nat.mul_one]

theorem OwnI.setOut_bt {E : TypeId} {base g c : Nat} {zs : List Int} : ∀ (vs : List Value) (o : Nat) (w : World), zs.length ≤ o → OwnI E w base (some ⟨g, 0, none⟩) c zs → OwnI E (w.setCells g o vs) base (some ⟨g, 0, none⟩) c zs
  | [], _, _, _, h => h
  | v :: vs, o, w, ho, h => by
    have h' : OwnI E (w.setCell ⟨g, o, none⟩ v) base (some ⟨g, 0, none⟩) c zs := by
      refine ⟨h.1, h.2.1, ?_⟩
      have := (h.2.2.stored o v).1
      rwa [List.set_eq_of_length_le (by simpa using ho)] at this
    exact OwnI.setOut_bt vs (o + 1) _ (by omega) h'

/-- What DeleteFunc's row holds between two rounds: those that stay, and behind j all as before. -/
structure DelBt (l : List Int) (x : Int) (i j : Nat) (dk : List Int) : Prop where
  len : dk.length = l.length
  lt : i < j
  le : j ≤ l.length
  kept : dk.take i = butBt (l.take j) x
  high : ∀ t, j ≤ t → nth dk t = nth l t
theorem DelBt.start {l : List Int} {x : Int} {k : Nat} (h1 : k < l.length) (h2 : nth l k = x) (h3 : ∀ j, j < k → nth l j ≠ x) : DelBt l x k (k + 1) l := by
  refine ⟨rfl, Nat.lt_succ_self _, h1, ?_, fun _ _ => rfl⟩
  rw [but_nextBt h1, if_pos h2, but_noneBt]
  intro hm
  obtain ⟨j, hj, e⟩ := nth_memBt.1 hm
  rw [List.length_take] at hj
  have hjk : j < k := by omega
  have e2 : nth l j = nth (l.take k) j := by rw [nth_get (show j < l.length by omega), nth_get (show j < (l.take k).length by rw [List.length_take]; omega), List.getElem_take]
  exact h3 j hjk (e2.trans e)
theorem DelBt.skip {l dk : List Int} {x : Int} {i j : Nat} (h : DelBt l x i j dk) (hj : j < l.length) (he : nth l j = x) : DelBt l x i (j + 1) dk :=
  ⟨h.len, by have := h.lt; omega, hj, by rw [but_nextBt hj, if_pos he]; exact h.kept, fun t ht => h.high t (by omega)⟩
theorem DelBt.keep {l dk : List Int} {x : Int} {i j : Nat} (h : DelBt l x i j dk) (hj : j < l.length) (he : nth l j ≠ x) : DelBt l x (i + 1) (j + 1) (dk.set i (nth l j)) := by
  have hi : i < dk.length := by have := h.lt; have := h.len; omega
  refine ⟨by simpa using h.len, by have := h.lt; omega, hj, ?_, fun t ht => ?_⟩
  · rw [but_nextBt hj, if_neg he, ← h.kept]
    rw [List.take_add_one]
    simp [hi, List.take_set_of_le]
  · by_cases htl : t < dk.length
    · rw [nth_set _ _ _ _ htl, if_neg (by have := h.lt; omega)]
      exact h.high t (by omega)
    · rw [nth_beyond (by simpa using Nat.le_of_not_lt htl), nth_beyond (by have := h.len; omega)]
theorem DelBt.done {l dk : List Int} {x : Int} {i j : Nat} (h : DelBt l x i j dk) (hj : l.length ≤ j) : dk.take i = butBt l x ∧ i = (butBt l x).length := by
  have hk := h.kept
  rw [List.take_of_length_le hj] at hk
  refine ⟨hk, ?_⟩
  rw [← hk, List.length_take]
  have := h.lt
  have := h.le
  have := h.len
  omega

end Go.Proofs.YtfhlligcbpnkkaaDoor

/-
  Layer 18's words: events (three numbers each: kind, id, A), a task's own ones, its life by them, which one may not come, the tasks behind all. Over no program.
-/
namespace Go.Proofs.YtfhlligcbpnkkaaDoor
open Go.RowKit

/-- What an instruction may let a task wait for. -/
def heldR (op : Int) : Int := if 4 ≤ op ∧ op ≤ 7 then op - 1 else 0
/-- A task's own events. -/
def ofR (l : List I3) (id : Int) : List I3 := l.filter fun x => decide (x.2.1 = id)
/-- How many are of a kind. -/
def cntR (l : List I3) (k : Int) : Nat := (l.filter fun x => decide (x.1 = k)).length

theorem ith_takeT {l : List I3} {k : Nat} (h : k < l.length) : l.take (k + 1) = l.take k ++ [ith l k] := by rw [ith_get h]; exact (List.take_append_getElem h).symm
theorem ofR_app (l m : List I3) (id : Int) : ofR (l ++ m) id = ofR l id ++ ofR m id := by simp [ofR]
theorem ofR_one (x : I3) (id : Int) : ofR [x] id = if x.2.1 = id then [x] else [] := by
  unfold ofR
  by_cases h : x.2.1 = id <;> simp [h]
theorem ofR_next {l : List I3} {k : Nat} (h : k < l.length) (id : Int) : ofR (l.take (k + 1)) id = if (ith l k).2.1 = id then ofR (l.take k) id ++ [ith l k] else ofR (l.take k) id := by
  rw [ith_takeT h, ofR_app, ofR_one]
  split <;> simp
theorem ofR_len (l : List I3) (id : Int) : (ofR l id).length ≤ l.length := List.length_filter_le _ _
theorem ofR_mem {l : List I3} {id : Int} {x : I3} : x ∈ ofR l id ↔ x ∈ l ∧ x.2.1 = id := by simp [ofR]
theorem cntR_app (l m : List I3) (k : Int) : cntR (l ++ m) k = cntR l k + cntR m k := by simp [cntR]
theorem cntR_one (x : I3) (k : Int) : cntR [x] k = if x.1 = k then 1 else 0 := by
  unfold cntR
  by_cases h : x.1 = k <;> simp [h]
theorem cntR_next {l : List I3} {k : Nat} (h : k < l.length) (q : Int) : cntR (l.take (k + 1)) q = cntR (l.take k) q + if (ith l k).1 = q then 1 else 0 := by rw [ith_takeT h, cntR_app, cntR_one]
theorem cntR_le (l : List I3) (k : Int) : cntR l k ≤ l.length := List.length_filter_le _ _

/-- A task's birth. -/
def bornT (P : List (List I3)) (x : I3) : Option Tk := if x.1 = 1 ∧ okT (newT x.2.1 0 x.2.2) ∧ x.2.2 < P.length then some (newT x.2.1 0 x.2.2) else none
/-- The program of a task. -/
def prgT (P : List (List I3)) (t : Tk) : List I3 := pth P t.pg.toNat
/-- A task behind one more event (the one ahead of it was 'last'): none, if it may not come. -/
noncomputable def stepT (P : List (List I3)) (t : Tk) (last x : I3) : Option Tk :=
  if x.1 = 2 then
    (if t.st = 1 ∧ ¬ (last.1 = 2 ∧ last.2.2 = 9) ∧ x.2.2 = (nextR t (prgT P t)).1.1 ∧ (doR { t with st := 2 } (prgT P t)).2.2 = 0 then some { (doR { t with st := 2 } (prgT P t)).1 with st := 1 } else none)
  else if x.1 = 3 then
    (if t.st = 1 ∧ last.1 = 2 ∧ x.2.2 ≠ 0 ∧ x.2.2 = heldR last.2.2 then some { t with st := x.2.2 } else none)
  else if x.1 = 4 then
    (if wtB t.st = true ∧ x.2.2 = 0 then some { t with st := 1 } else none)
  else if x.1 = 5 then
    (if t.st = 1 ∧ last.1 = 2 ∧ last.2.2 = 9 ∧ x.2.2 = 0 then some { t with st := 7 } else none)
  else
    (if x.1 = 6 ∧ t.st ≠ 7 ∧ x.2.2 = 0 then some { t with st := 7 } else none)
/-- A task behind all events that follow. -/
noncomputable def runT (P : List (List I3)) : Tk → I3 → List I3 → Option Tk
  | t, _, [] => some t
  | t, last, x :: r => match stepT P t last x with
    | none => none
    | some u => runT P u x r
/-- A task behind all of its own events. -/
noncomputable def oneT (P : List (List I3)) : List I3 → Option Tk
  | [] => some zT
  | x :: r => match bornT P x with
    | none => none
    | some t => runT P t x r

/-- The last of events. -/
def lastT (d : I3) (l : List I3) : I3 := l.getLastD d
theorem runT_app (P : List (List I3)) : ∀ (l m : List I3) (t : Tk) (d : I3), runT P t d (l ++ m) = (runT P t d l).bind fun u => runT P u (l.getLastD d) m
  | [], m, t, d => rfl
  | x :: r, m, t, d => by
    rw [List.cons_append, runT, runT]
    cases stepT P t d x with
    | none => rfl
    | some u =>
      show runT P u x (r ++ m) = (runT P u x r).bind _
      rw [runT_app P r m u x]
      cases r <;> rfl
theorem oneT_app (P : List (List I3)) {x : I3} {r m : List I3} : oneT P (x :: r ++ m) = (oneT P (x :: r)).bind fun u => runT P u ((x :: r).getLastD x) m := by
  rw [List.cons_append, oneT, oneT]
  cases bornT P x with
  | none => rfl
  | some t =>
    show runT P t x (r ++ m) = (runT P t x r).bind _
    rw [runT_app]
    cases r <;> rfl
theorem oneT_prefix {P : List (List I3)} {l m : List I3} (h : (oneT P (l ++ m)).isSome = true) : (oneT P l).isSome = true := by
  cases l with
  | nil => rfl
  | cons x r =>
    rw [oneT_app] at h
    cases e : oneT P (x :: r) with
    | none => rw [e] at h; cases h
    | some t => rfl
/-- One more event of a task that was born. -/
theorem oneT_snoc {P : List (List I3)} {x : I3} {r : List I3} {t : Tk} (h : oneT P (x :: r) = some t) (y : I3) : oneT P (x :: r ++ [y]) = stepT P t ((x :: r).getLastD x) y := by
  rw [oneT_app, h]
  show runT P t _ [y] = _
  rw [runT]
  cases stepT P t ((x :: r).getLastD x) y <;> rfl

/-- May the event at a place come behind those ahead of it? -/
noncomputable def mayT (P : List (List I3)) (l : List I3) (i : Nat) : Bool := (oneT P (ofR (l.take (i + 1)) (ith l i).2.1)).isSome
/-- The place of the first event that may not come (from k on). -/
noncomputable def badK (P : List (List I3)) (l : List I3) : Nat → Nat → Nat
  | 0, k => k
  | f + 1, k => if mayT P l k = true then badK P l f (k + 1) else k
noncomputable def badT (P : List (List I3)) (l : List I3) : Nat := badK P l l.length 0
theorem badK_spec (P : List (List I3)) (l : List I3) : ∀ f k, k ≤ badK P l f k ∧ badK P l f k ≤ k + f ∧ (∀ j, k ≤ j → j < badK P l f k → mayT P l j = true) ∧ (badK P l f k < k + f → mayT P l (badK P l f k) = false)
  | 0, k => ⟨Nat.le_refl _, Nat.le_refl _, fun j h1 h2 => by simp [badK] at h2; omega, fun h => by simp [badK] at h⟩
  | f + 1, k => by
    rw [badK]
    cases e : mayT P l k with
    | true =>
      obtain ⟨h1, h2, h3, h4⟩ := badK_spec P l f (k + 1)
      rw [if_pos rfl]
      refine ⟨by omega, by omega, fun j j1 j2 => ?_, fun h => h4 (by omega)⟩
      by_cases q : j = k
      · subst q; exact e
      · exact h3 j (by omega) j2
    | false =>
      rw [if_neg (by decide)]
      exact ⟨Nat.le_refl _, by omega, fun j j1 j2 => by omega, fun _ => e⟩
theorem badT_le (P : List (List I3)) (l : List I3) : badT P l ≤ l.length := by have := (badK_spec P l l.length 0).2.1; unfold badT; omega
theorem badT_ahead {P : List (List I3)} {l : List I3} {j : Nat} (h : j < badT P l) : mayT P l j = true := (badK_spec P l l.length 0).2.2.1 j (Nat.zero_le _) h
theorem badT_at {P : List (List I3)} {l : List I3} (h : badT P l < l.length) : mayT P l (badT P l) = false := (badK_spec P l l.length 0).2.2.2 (by unfold badT at h; omega)
theorem badT_of {P : List (List I3)} {l : List I3} {k : Nat} (h1 : k ≤ l.length) (h2 : ∀ j, j < k → mayT P l j = true) (h3 : k < l.length → mayT P l k = false) : badT P l = k := by
  rcases Nat.lt_trichotomy (badT P l) k with h | h | h
  · have := badT_at (P := P) (l := l) (by omega)
    rw [h2 _ h] at this
    cases this
  · exact h
  · have h4 := badT_ahead (P := P) (l := l) h
    have := badT_le P l
    rw [h3 (by omega)] at h4
    cases h4

/-- What Check answers. -/
noncomputable def chkT (P : List (List I3)) (l : List I3) : Int × Int := if errL P = 0 ∧ l.length ≤ 65536 then ((badT P l : Int), 0) else (0, 1)
/-- The tasks, in the order in which they were born. -/
noncomputable def tasksL (P : List (List I3)) (l : List I3) : List Tk := (l.filter fun x => decide (x.1 = 1)).map fun x => (oneT P (ofR l x.2.1)).getD zT
noncomputable def tasksT (P : List (List I3)) (l : List I3) : List Tk × Int :=
  if errL P = 0 ∧ l.length ≤ 65536 then (if badT P l = l.length then (tasksL P l, 0) else ([], 2)) else ([], 1)
theorem chkT_ok {P : List (List I3)} {l : List I3} (h : errL P = 0 ∧ l.length ≤ 65536) : chkT P l = ((badT P l : Int), 0) := if_pos h
theorem chkT_no {P : List (List I3)} {l : List I3} (h : ¬ (errL P = 0 ∧ l.length ≤ 65536)) : chkT P l = (0, 1) := if_neg h
theorem tasksT_no {P : List (List I3)} {l : List I3} (h : ¬ (errL P = 0 ∧ l.length ≤ 65536)) : tasksT P l = ([], 1) := if_neg h
theorem tasksT_bad {P : List (List I3)} {l : List I3} (h : errL P = 0 ∧ l.length ≤ 65536) (hb : badT P l ≠ l.length) : tasksT P l = ([], 2) := by unfold tasksT; rw [if_pos h, if_neg hb]
theorem tasksT_ok {P : List (List I3)} {l : List I3} (h : errL P = 0 ∧ l.length ≤ 65536) (hb : badT P l = l.length) : tasksT P l = (tasksL P l, 0) := by unfold tasksT; rw [if_pos h, if_pos hb]

end Go.Proofs.YtfhlligcbpnkkaaDoor

/-
  Layer 18: mathematics of the laws: beginnings, each task's own events alone, places changed, one more event.
-/
namespace Go.Proofs.YtfhlligcbpnkkaaDoor
open Go.RowKit

theorem ith_takeR {l : List I3} {k j : Nat} (h : j < k) : ith (l.take k) j = ith l j := ith_take h
theorem ith_appL {l m : List I3} {j : Nat} (h : j < l.length) : ith (l ++ m) j = ith l j := by
  rw [ith_get (by rw [List.length_append]; omega), ith_get h, List.getElem_append_left h]
theorem ith_appR (l : List I3) (x : I3) : ith (l ++ [x]) l.length = x := by rw [ith_get (by simp)]; simp
theorem mem_ith {l : List I3} {x : I3} : x ∈ l ↔ ∃ j, j < l.length ∧ ith l j = x := by
  rw [List.mem_iff_getElem]
  exact ⟨fun ⟨j, h, e⟩ => ⟨j, h, by rw [ith_get h]; exact e⟩, fun ⟨j, h, e⟩ => ⟨j, h, by rw [ith_get h] at e; exact e⟩⟩

/-- May an event come hangs on what comes ahead of it alone. -/
theorem may_app {P : List (List I3)} {l m : List I3} {i : Nat} (h : i < l.length) : mayT P (l ++ m) i = mayT P l i := by
  unfold mayT
  rw [ith_appL h, List.take_append_of_le_length (by omega)]
theorem may_take {P : List (List I3)} {l : List I3} {c i : Nat} (h : i < c) (hc : c ≤ l.length) : mayT P (l.take c) i = mayT P l i := by
  have := may_app (P := P) (l := l.take c) (m := l.drop c) (i := i) (by rw [List.length_take]; omega)
  rw [List.take_append_drop] at this
  exact this.symm
theorem bad_cut {P : List (List I3)} {l : List I3} {c : Nat} (hc : c ≤ l.length) : badT P (l.take c) = min (badT P l) c := by
  have hl : (l.take c).length = c := by rw [List.length_take]; omega
  refine badT_of (by rw [hl]; exact Nat.min_le_right _ _) (fun j hj => ?_) (fun h => ?_)
  · rw [may_take (by omega) hc]
    exact badT_ahead (by omega)
  · rw [hl] at h
    have hb : badT P l < c := by omega
    rw [Nat.min_eq_left (by omega), may_take hb hc]
    exact badT_at (by omega)

/-- So far all may come: then so far each task's own may. -/
theorem own_upto {P : List (List I3)} {l : List I3} : ∀ k, k ≤ l.length → (∀ j, j < k → mayT P l j = true) → ∀ id, (oneT P (ofR (l.take k) id)).isSome = true := by
  intro k
  induction k with
  | zero => intro _ _ id; rfl
  | succ k ih =>
    intro hk h id
    by_cases e : (ith l k).2.1 = id
    · have := h k (by omega)
      unfold mayT at this
      rwa [e] at this
    · rw [ofR_next (by omega), if_neg e]
      exact ih (by omega) (fun j hj => h j (by omega)) id
theorem own_prefix {P : List (List I3)} {l : List I3} {id : Int} (h : (oneT P (ofR l id)).isSome = true) (k : Nat) : (oneT P (ofR (l.take k) id)).isSome = true := by
  have e : ofR l id = ofR (l.take k) id ++ ofR (l.drop k) id := by rw [← ofR_app, List.take_append_drop]
  rw [e] at h
  exact oneT_prefix h
/-- It hangs on each task's own events alone. -/
theorem all_own {P : List (List I3)} {l : List I3} : badT P l = l.length ↔ ∀ id, (oneT P (ofR l id)).isSome = true := by
  constructor
  · intro h id
    have := own_upto (P := P) (l := l) l.length (Nat.le_refl _) (fun j hj => badT_ahead (by omega)) id
    rwa [List.take_length] at this
  · intro h
    refine badT_of (Nat.le_refl _) (fun j hj => ?_) (fun q => absurd q (Nat.lt_irrefl _))
    exact own_prefix (h _) (j + 1)
theorem all_mem {P : List (List I3)} {l : List I3} : badT P l = l.length ↔ ∀ x ∈ l, (oneT P (ofR l x.2.1)).isSome = true := by
  rw [all_own]
  refine ⟨fun h x _ => h _, fun h id => ?_⟩
  by_cases e : ∃ x ∈ l, x.2.1 = id
  · obtain ⟨x, hx, rfl⟩ := e
    exact h x hx
  · have : ofR l id = [] := by
      unfold ofR
      rw [List.filter_eq_nil_iff]
      intro x hx
      simp
      exact fun q => e ⟨x, hx, q⟩
    rw [this]
    rfl
theorem ofR_ofR (l : List I3) (id id' : Int) : ofR (ofR l id) id' = if id = id' then ofR l id else [] := by
  unfold ofR
  rw [List.filter_filter]
  by_cases h : id = id'
  · subst h
    rw [if_pos rfl]
    exact List.filter_congr fun x _ => by simp
  · rw [if_neg h, List.filter_eq_nil_iff]
    intro x _
    simp
    omega
/-- A task's own events, by themselves. -/
theorem own_alone {P : List (List I3)} {l : List I3} {id : Int} : badT P (ofR l id) = (ofR l id).length ↔ (oneT P (ofR l id)).isSome = true := by
  rw [all_own]
  refine ⟨fun h => by have := h id; rwa [ofR_ofR, if_pos rfl] at this, fun h id' => ?_⟩
  rw [ofR_ofR]
  split
  · exact h
  · rfl

/-- Two that stand beside one another change places. -/
def swapT (l : List I3) (k : Nat) : List I3 := (l.set k (ith l (k + 1))).set (k + 1) (ith l k)
theorem swapT_len (l : List I3) (k : Nat) : (swapT l k).length = l.length := by simp [swapT]
theorem split2 {l : List I3} {k : Nat} (h : k + 1 < l.length) : l = l.take k ++ [ith l k, ith l (k + 1)] ++ l.drop (k + 2) := by
  have e1 : l.drop k = ith l k :: l.drop (k + 1) := drop_cons (by omega)
  have e2 : l.drop (k + 1) = ith l (k + 1) :: l.drop (k + 2) := drop_cons h
  conv => lhs; rw [← List.take_append_drop k l, e1, e2]
  simp
theorem swapT_split : ∀ {k : Nat} {l : List I3}, k + 1 < l.length → swapT l k = l.take k ++ [ith l (k + 1), ith l k] ++ l.drop (k + 2)
  | 0, [], h => by simp at h
  | 0, [_], h => by simp at h
  | 0, a :: b :: r, _ => rfl
  | k + 1, [], h => by simp at h
  | k + 1, a :: l, h => by
    have ih := swapT_split (k := k) (l := l) (by simpa using h)
    have e : swapT (a :: l) (k + 1) = a :: swapT l k := rfl
    rw [e, ih]
    rfl
theorem ofR_swap {l : List I3} {k : Nat} (h : k + 1 < l.length) (hne : (ith l k).2.1 ≠ (ith l (k + 1)).2.1) (id : Int) : ofR (swapT l k) id = ofR l id := by
  rw [swapT_split h]
  conv => rhs; rw [split2 h]
  rw [ofR_app, ofR_app, ofR_app, ofR_app]
  congr 2
  unfold ofR
  by_cases c1 : (ith l k).2.1 = id
  · have c2 : ¬ (ith l (k + 1)).2.1 = id := by omega
    simp [c1, c2]
  · by_cases c2 : (ith l (k + 1)).2.1 = id <;> simp [c1, c2]
theorem all_swap {P : List (List I3)} {l : List I3} {k : Nat} (h : k + 1 < l.length) (hne : (ith l k).2.1 ≠ (ith l (k + 1)).2.1) : badT P (swapT l k) = l.length ↔ badT P l = l.length := by
  rw [← swapT_len l k, all_own, swapT_len, all_own]
  refine forall_congr' fun id => ?_
  rw [ofR_swap h hne]

/-- One more event. -/
theorem bad_snoc {P : List (List I3)} {l : List I3} (h : badT P l = l.length) (x : I3) : badT P (l ++ [x]) = if (oneT P (ofR l x.2.1 ++ [x])).isSome = true then l.length + 1 else l.length := by
  have hm : mayT P (l ++ [x]) l.length = (oneT P (ofR l x.2.1 ++ [x])).isSome := by
    unfold mayT
    rw [ith_appR, List.take_of_length_le (by simp), ofR_app, ofR_one, if_pos rfl]
  have ha : ∀ j, j < l.length → mayT P (l ++ [x]) j = true := fun j hj => by rw [may_app hj]; exact badT_ahead (by omega)
  by_cases e : (oneT P (ofR l x.2.1 ++ [x])).isSome = true
  · rw [if_pos e]
    refine badT_of (by simp) (fun j hj => ?_) (fun q => by simp at q)
    rcases Nat.lt_or_ge j l.length with c | c
    · exact ha j c
    · obtain rfl : j = l.length := by omega
      rw [hm]; exact e
  · rw [if_neg e]
    refine badT_of (by simp) ha (fun _ => ?_)
    rw [hm]
    simpa using e
theorem born_one (P : List (List I3)) (x : I3) : (oneT P [x]).isSome = (bornT P x).isSome := by
  rw [oneT]
  cases bornT P x <;> rfl
theorem born_iff {P : List (List I3)} (hP : P.length ≤ 16) (x : I3) : (bornT P x).isSome = true ↔ x.1 = 1 ∧ 0 ≤ x.2.1 ∧ 0 ≤ x.2.2 ∧ x.2.2 < P.length := by
  unfold bornT
  have hok : okT (newT x.2.1 0 x.2.2) ↔ 0 ≤ x.2.1 ∧ 0 ≤ x.2.2 ∧ x.2.2 < 16 := by
    unfold okT hdT kpT newT
    simp [stB]
  constructor
  · intro h
    split at h
    · next q => exact ⟨q.1, (hok.1 q.2.1).1, (hok.1 q.2.1).2.1, q.2.2⟩
    · cases h
  · rintro ⟨h1, h2, h3, h4⟩
    rw [if_pos ⟨h1, hok.2 ⟨h2, h3, by omega⟩, h4⟩]
    rfl
theorem step_kind {P : List (List I3)} {t : Tk} {last x : I3} {u : Tk} (h : stepT P t last x = some u) : x.1 = 2 ∨ x.1 = 3 ∨ x.1 = 4 ∨ x.1 = 5 ∨ x.1 = 6 := by
  unfold stepT at h
  split at h
  · exact .inl ‹_›
  · split at h
    · exact .inr (.inl ‹_›)
    · split at h
      · exact .inr (.inr (.inl ‹_›))
      · split at h
        · exact .inr (.inr (.inr (.inl ‹_›)))
        · split at h
          · next q => exact .inr (.inr (.inr (.inr q.1)))
          · cases h

end Go.Proofs.YtfhlligcbpnkkaaDoor

/-
  Layer 18: mathematics of the laws: what holds of a task behind its own events.
-/
namespace Go.Proofs.YtfhlligcbpnkkaaDoor
open Go.RowKit

/-- An exit was done among the first k. -/
def exitT (m : List I3) (k : Nat) : Prop := ∃ i, i < k ∧ (ith m i).1 = 2 ∧ (ith m i).2.2 = 9
/-- What holds of a task behind the first k (1 at the least) of its own events. -/
structure LifeT (P : List (List I3)) (m : List I3) (k : Nat) (t : Tk) : Prop where
  born : (ith m 0).1 = 1 ∧ ∀ i, 0 < i → i < k → (ith m i).1 ≠ 1
  kinds : ∀ i, i < k → 1 ≤ (ith m i).1 ∧ (ith m i).1 ≤ 6
  who : t.id = (ith m 0).2.1 ∧ t.pg = (ith m 0).2.2 ∧ 0 ≤ t.pg ∧ t.pg < P.length
  ran : t.rn = (cntR (m.take k) 2 : Int)
  st : (((ith m (k - 1)).1 = 1 ∨ (ith m (k - 1)).1 = 2 ∨ (ith m (k - 1)).1 = 4) ∧ t.st = 1) ∨ ((ith m (k - 1)).1 = 3 ∧ wtB t.st = true) ∨ (((ith m (k - 1)).1 = 5 ∨ (ith m (k - 1)).1 = 6) ∧ t.st = 7)
  ends : ∀ i, i + 1 < k → (ith m i).1 ≠ 5 ∧ (ith m i).1 ≠ 6
  held : ∀ i, i + 1 < k → ((ith m i).1 = 3 → (ith m (i + 1)).1 = 4 ∨ (ith m (i + 1)).1 = 6) ∧ ((ith m (i + 1)).1 = 4 → (ith m i).1 = 3)
  waits : cntR (m.take k) 4 ≤ cntR (m.take k) 3 ∧ cntR (m.take k) 3 ≤ cntR (m.take k) 4 + 1 ∧ ((ith m (k - 1)).1 = 3 → cntR (m.take k) 3 = cntR (m.take k) 4 + 1) ∧ ((ith m (k - 1)).1 ≠ 3 → (ith m (k - 1)).1 ≠ 6 → cntR (m.take k) 3 = cntR (m.take k) 4)
  most : t.rn ≤ units (prgT P t) + 1
  left : ¬ exitT m k → outB (prgT P t) t.pc.toNat = false ∧ t.rn + leftV t (prgT P t) = units (prgT P t) ∧ 0 ≤ leftV t (prgT P t)
  exit : ∀ i, i < k → (ith m i).1 = 2 → (ith m i).2.2 = 9 → i = k - 1 ∨ t.st = 7

theorem heldR_wt {x : Int} (h : heldR x ≠ 0) : wtB (heldR x) = true := by
  unfold heldR at h ⊢
  split
  · next q => rw [if_pos q] at h; simp [wtB]; omega
  · next q => rw [if_neg q] at h; exact absurd rfl h
theorem heldR_exit : heldR 9 = 0 := rfl
theorem okL_prg {P : List (List I3)} (hP : okL P) {t : Tk} (h : 0 ≤ t.pg ∧ t.pg < P.length) : okP (prgT P t) := (hP.2.2 t.pg.toNat (by omega)).1

/-- Its birth. -/
theorem life_born {P : List (List I3)} (hP : okL P) {m : List I3} {t : Tk} (hm : 0 < m.length) (h : bornT P (ith m 0) = some t) : LifeT P m 1 t := by
  unfold bornT at h
  split at h
  · next q =>
    injection h with h
    subst h
    obtain ⟨q1, q2, q3⟩ := q
    have hpg : 0 ≤ (ith m 0).2.2 ∧ (ith m 0).2.2 < P.length := ⟨q2.1.2.2.1.1, q3⟩
    have hp := okL_prg hP (t := newT (ith m 0).2.1 0 (ith m 0).2.2) hpg
    have c : ∀ z, cntR (m.take 1) z = if (ith m 0).1 = z then 1 else 0 := fun z => by rw [cntR_next hm]; simp [cntR]
    have hu := units_nonneg hp _ 0 rfl
    rw [List.drop_zero] at hu
    have ho : outB (prgT P (newT (ith m 0).2.1 0 (ith m 0).2.2)) 0 = false := outB_false.2 fun j hj => by omega
    have hl : leftV (newT (ith m 0).2.1 0 (ith m 0).2.2) (prgT P (newT (ith m 0).2.1 0 (ith m 0).2.2)) = units (prgT P (newT (ith m 0).2.1 0 (ith m 0).2.2)) := by
      rw [leftV_in (k := 0) rfl ho, List.drop_zero]
      show _ - 0 = _
      omega
    refine ⟨⟨q1, fun i h1 h2 => by omega⟩, fun i hi => ?_, ⟨rfl, rfl, hpg⟩, ?_, .inl ⟨.inl q1, rfl⟩, fun i hi => by omega, fun i hi => by omega, ?_, ?_, fun _ => ⟨ho, ?_, by rw [hl]; exact hu⟩, fun i hi h2 h9 => .inl (by omega)⟩
    · obtain rfl : i = 0 := by omega
      omega
    · rw [c, q1]; rfl
    · rw [c, c, q1]; simp
    · show (0 : Int) ≤ _; omega
    · rw [hl]; show (0 : Int) + _ = _; omega
  · cases h

/-- One more of its events. -/
theorem life_step {P : List (List I3)} (hP : okL P) {m : List I3} {k : Nat} {t u : Tk} (hk : 0 < k) (hkm : k < m.length) (L : LifeT P m k t) (h : stepT P t (ith m (k - 1)) (ith m k) = some u) : LifeT P m (k + 1) u := by
  have hp := okL_prg hP ⟨L.who.2.2.1, L.who.2.2.2⟩
  have c : ∀ z, cntR (m.take (k + 1)) z = cntR (m.take k) z + if (ith m k).1 = z then 1 else 0 := fun z => cntR_next hkm z
  have hkind := step_kind h
  have ekk : k + 1 - 1 = k := by omega
  have k1 : k - 1 + 1 = k := by omega
  have hst := L.st
  have hlst := L.exit
  -- the last one is no end
  have hend : (ith m (k - 1)).1 ≠ 5 ∧ (ith m (k - 1)).1 ≠ 6 ∧ t.st ≠ 7 := by
    have h7 : t.st = 7 → stepT P t (ith m (k - 1)) (ith m k) = none := fun e => by
      unfold stepT
      rw [e]
      split
      · rw [if_neg (by rintro ⟨q, -⟩; omega)]
      · split
        · rw [if_neg (by rintro ⟨q, -⟩; omega)]
        · split
          · rw [if_neg (by rintro ⟨q, -⟩; revert q; decide)]
          · split
            · rw [if_neg (by rintro ⟨q, -⟩; omega)]
            · rw [if_neg (by rintro ⟨-, q, -⟩; exact q rfl)]
    have n7 : t.st ≠ 7 := fun e => by rw [h7 e] at h; cases h
    refine ⟨fun e => ?_, fun e => ?_, n7⟩
    · rcases hst with ⟨q, -⟩ | ⟨q, -⟩ | ⟨-, q⟩
      · omega
      · omega
      · exact n7 q
    · rcases hst with ⟨q, -⟩ | ⟨q, -⟩ | ⟨-, q⟩
      · omega
      · omega
      · exact n7 q
  have hborn : (ith m 0).1 = 1 ∧ ∀ i, 0 < i → i < k + 1 → (ith m i).1 ≠ 1 := ⟨L.born.1, fun i h1 h2 => by
    rcases Nat.lt_or_ge i k with c | c
    · exact L.born.2 i h1 c
    · obtain rfl : i = k := by omega
      omega⟩
  have hkinds : ∀ i, i < k + 1 → 1 ≤ (ith m i).1 ∧ (ith m i).1 ≤ 6 := fun i hi => by
    rcases Nat.lt_or_ge i k with c | c
    · exact L.kinds i c
    · obtain rfl : i = k := by omega
      omega
  have hends : ∀ i, i + 1 < k + 1 → (ith m i).1 ≠ 5 ∧ (ith m i).1 ≠ 6 := fun i hi => by
    rcases Nat.lt_or_ge (i + 1) k with c | c
    · exact L.ends i c
    · obtain rfl : i = k - 1 := by omega
      exact ⟨hend.1, hend.2.1⟩
  -- what holds of two that stand beside one another
  have hheld : ((ith m (k - 1)).1 = 3 → (ith m k).1 = 4 ∨ (ith m k).1 = 6) → ((ith m k).1 = 4 → (ith m (k - 1)).1 = 3) → ∀ i, i + 1 < k + 1 → ((ith m i).1 = 3 → (ith m (i + 1)).1 = 4 ∨ (ith m (i + 1)).1 = 6) ∧ ((ith m (i + 1)).1 = 4 → (ith m i).1 = 3) := fun a b i hi => by
    rcases Nat.lt_or_ge (i + 1) k with c | c
    · exact L.held i c
    · obtain rfl : i = k - 1 := by omega
      rw [k1]
      exact ⟨a, b⟩
  have w4 := L.waits
  have hex : ∀ s : Int, ((ith m k).1 = 2 → (ith m k).2.2 = 9 → True) → (¬ exitT m k ∨ s = 7) → ∀ i, i < k + 1 → (ith m i).1 = 2 → (ith m i).2.2 = 9 → i = k + 1 - 1 ∨ s = 7 := fun s _ hs i hi h2 h9 => by
    rcases Nat.lt_or_ge i k with c | c
    · rcases hs with hs | hs
      · exact absurd ⟨i, c, h2, h9⟩ hs
      · exact .inr hs
    · exact .inl (by omega)
  -- no exit was done, but it was the last one
  have hno : ¬ ((ith m (k - 1)).1 = 2 ∧ (ith m (k - 1)).2.2 = 9) → ¬ exitT m k := fun q ⟨i, hi, h2, h9⟩ => by
    rcases L.exit i hi h2 h9 with e | e
    · subst e; exact q ⟨h2, h9⟩
    · exact hend.2.2 e
  have hsub : ¬ exitT m (k + 1) → ¬ exitT m k := fun q ⟨i, hi, hh⟩ => q ⟨i, by omega, hh⟩
  unfold stepT at h
  split at h
  · next x2 =>
    split at h
    · next q =>
      obtain ⟨s1, nl, ea, e0⟩ := q
      injection h with h
      have hT : okF { t with st := 2 } (prgT P t) := Classical.byContradiction fun q => by rw [doR_no q] at e0; exact absurd e0 (by decide)
      rw [doR_yes hT] at e0 h
      obtain ⟨-, -, e3⟩ := unit_ok e0
      have hle := left_unit hT e0
      rw [e3] at h hle
      dsimp only at h hle
      have hnx := hno nl
      obtain ⟨l1, l2, l3⟩ := L.left hnx
      obtain ⟨kk, hkk, n1, n2, n3, n4, n5, n6, n7⟩ := hT.num
      dsimp only at hkk n3 n4 n5 n6 n7
      have hat : atI (prgT P t) t.pc = atN (prgT P t) kk := by unfold atI; rw [hkk, Int.toNat_natCast]
      have hnext : (nextR t (prgT P t)).1.1 = (atN (prgT P t) kk).1 := by
        rw [nextR_yes (t := t) (by
          refine ⟨⟨⟨hT.1.1.1, hT.1.1.2.1, hT.1.1.2.2.1, hT.1.1.2.2.2.1, hT.1.1.2.2.2.2.1, hT.1.1.2.2.2.2.2.1, ?_⟩, hT.1.2⟩, hT.2.1, hT.2.2.1, hT.2.2.2⟩
          rw [s1]; rfl), hat]
      rw [hnext] at ea
      have hu : u.st = 1 ∧ u.id = t.id ∧ u.pg = t.pg ∧ u.rn = t.rn + 1 ∧ leftV u (prgT P t) = max (leftV t (prgT P t) - 1) 0 ∧ ((atN (prgT P t) kk).1 ≠ 9 → outB (prgT P t) u.pc.toNat = false) := by
        refine ⟨by rw [← h], by rw [← h]; unfold goT goW; (repeat' split) <;> rfl, by rw [← h]; unfold goT goW; (repeat' split) <;> rfl, by rw [← h]; unfold goT goW; (repeat' split) <;> rfl, ?_, fun h9 => ?_⟩
        · rw [← h]; exact hle.1
        · have hlt : kk < (prgT P t).length := Classical.byContradiction fun q => by
            have : kk = (prgT P t).length := by omega
            rw [atN_end this] at h9
            exact h9 rfl
          have hj : jO (prgT P t) kk ≠ 9 := by rw [atN_in hlt] at h9; exact h9
          rw [hkk, Int.toNat_natCast] at l1
          have l1' := outB_next l1 hj
          have hpc : u.pc = (kk : Int) ∨ u.pc = ((kk + 1 : Nat) : Int) := by
            rw [← h]
            unfold goT goW
            dsimp only
            rw [hkk]
            (repeat' split) <;> first | (left; rfl) | (right; rfl) | (right; dsimp only; omega) | (left; dsimp only; omega)
          rcases hpc with e | e <;> rw [e, Int.toNat_natCast]
          · exact l1
          · exact l1'
      obtain ⟨u1, u2, u3, u4, u5, u6⟩ := hu
      have hprg : prgT P u = prgT P t := by unfold prgT; rw [u3]
      refine ⟨hborn, hkinds, ⟨u2.trans L.who.1, u3.trans L.who.2.1, by rw [u3]; exact L.who.2.2.1, by rw [u3]; exact L.who.2.2.2⟩, ?_, .inl ⟨.inr (.inl (by rw [ekk]; exact x2)), u1⟩, hends, hheld (fun q => ?_) (fun q => by omega), ?_, ?_, fun q => ?_, hex _ (fun _ _ => trivial) (.inl hnx)⟩
      · rw [u4, L.ran, c, if_pos x2]; omega
      · rcases hst with ⟨w, -⟩ | ⟨-, w⟩ | ⟨w, -⟩
        · omega
        · rw [s1] at w; exact absurd w (by decide)
        · omega
      · rw [c, c, x2, ekk, x2]
        simp
        have : (ith m (k - 1)).1 ≠ 3 := fun q => by
          rcases hst with ⟨w, -⟩ | ⟨-, w⟩ | ⟨w, -⟩
          · omega
          · rw [s1] at w; exact absurd w (by decide)
          · omega
        have := w4.2.2.2 this hend.2.1
        omega
      · rw [hprg, u4]; omega
      · rw [hprg]
        have h9 : (atN (prgT P t) kk).1 ≠ 9 := fun e => q ⟨k, by omega, x2, by rw [ea]; exact e⟩
        refine ⟨u6 h9, ?_, by rw [u5]; omega⟩
        have hlt : kk < (prgT P t).length := Classical.byContradiction fun q => by
          have : kk = (prgT P t).length := by omega
          rw [atN_end this] at h9
          exact h9 rfl
        have hpos : 1 ≤ leftV t (prgT P t) := by
          rw [leftV_in hkk (by rw [hkk, Int.toNat_natCast] at l1; exact l1), units_drop hlt]
          have hw := wgt_pos (hp.2.2 kk hlt)
          have hn := units_nonneg hp _ (kk + 1) rfl
          rcases n7 with z | ⟨z1, z2⟩
          · split <;> omega
          · rw [atN_in hlt] at z1 z2
            have : wgt (ith (prgT P t) kk) = jA (prgT P t) kk := by unfold wgt; rw [if_pos (show (ith (prgT P t) kk).1 = 1 from z1)]; rfl
            dsimp only at z2
            split <;> omega
        rw [u4, u5]
        omega
    · cases h
  · split at h
    · next x3 =>
      split at h
      · next q =>
        injection h with h
        subst h
        obtain ⟨s1, z2, a0, ah⟩ := q
        have nx : ¬ ((ith m (k - 1)).1 = 2 ∧ (ith m (k - 1)).2.2 = 9) := fun w => by rw [w.2, heldR_exit] at ah; exact a0 ah
        refine ⟨hborn, hkinds, L.who, ?_, .inr (.inl ⟨by rw [ekk]; exact x3, ?_⟩), hends, hheld (fun q => by omega) (fun q => by omega), ?_, L.most, fun q => L.left (hsub q), hex _ (fun _ _ => trivial) (.inl (hno nx))⟩
        · rw [c, x3]; simp; exact L.ran
        · show wtB (ith m k).2.2 = true
          rw [ah]; exact heldR_wt (by rw [← ah]; exact a0)
        · rw [c, c, x3, ekk, x3]
          simp
          have := w4.2.2.2 (by omega) (by omega)
          omega
      · cases h
    · split at h
      · next x4 =>
        split at h
        · next q =>
          injection h with h
          subst h
          obtain ⟨s1, a0⟩ := q
          have z3 : (ith m (k - 1)).1 = 3 := by
            rcases hst with ⟨-, w⟩ | ⟨w, -⟩ | ⟨-, w⟩
            · rw [w] at s1; exact absurd s1 (by decide)
            · exact w
            · rw [w] at s1; exact absurd s1 (by decide)
          refine ⟨hborn, hkinds, L.who, ?_, .inl ⟨.inr (.inr (by rw [ekk]; exact x4)), rfl⟩, hends, hheld (fun q => .inl x4) (fun q => z3), ?_, L.most, fun q => L.left (hsub q), hex _ (fun _ _ => trivial) (.inl (hno (by omega)))⟩
          · rw [c, x4]; simp; exact L.ran
          · rw [c, c, x4, ekk, x4]
            simp
            have := w4.2.2.1 z3
            omega
        · cases h
      · split at h
        · next x5 =>
          split at h
          · next q =>
            injection h with h
            subst h
            obtain ⟨s1, z2, z9, a0⟩ := q
            refine ⟨hborn, hkinds, L.who, ?_, .inr (.inr ⟨.inl (by rw [ekk]; exact x5), rfl⟩), hends, hheld (fun q => by omega) (fun q => by omega), ?_, L.most, fun q => L.left (hsub q), hex _ (fun _ _ => trivial) (.inr rfl)⟩
            · rw [c, x5]; simp; exact L.ran
            · rw [c, c, x5, ekk, x5]
              simp
              have := w4.2.2.2 (by omega) (by omega)
              omega
          · cases h
        · split at h
          · next q =>
            injection h with h
            subst h
            obtain ⟨x6, s7, a0⟩ := q
            refine ⟨hborn, hkinds, L.who, ?_, .inr (.inr ⟨.inr (by rw [ekk]; exact x6), rfl⟩), hends, hheld (fun q => .inr x6) (fun q => by omega), ?_, L.most, fun q => L.left (hsub q), hex _ (fun _ _ => trivial) (.inr rfl)⟩
            · rw [c, x6]; simp; exact L.ran
            · rw [c, c, x6, ekk, x6]
              simp
              omega
          · cases h

/-- Behind all of its own events. -/
theorem life_upto {P : List (List I3)} (hP : okL P) {m : List I3} (h : (oneT P m).isSome = true) : ∀ k, 0 < k → k ≤ m.length → ∃ t, oneT P (m.take k) = some t ∧ LifeT P m k t := by
  intro k
  induction k with
  | zero => intro h0 _; omega
  | succ k ih =>
    intro _ hk
    have hpre : (oneT P (m.take (k + 1))).isSome = true := by
      rw [← List.take_append_drop (k + 1) m] at h
      exact oneT_prefix h
    by_cases e0 : k = 0
    · subst e0
      have e1 : m.take (0 + 1) = [ith m 0] := by rw [ith_takeT (by omega)]; simp
      rw [e1] at hpre ⊢
      rw [oneT] at hpre ⊢
      cases hb : bornT P (ith m 0) with
      | none => rw [hb] at hpre; cases hpre
      | some t => exact ⟨t, rfl, life_born hP (by omega) hb⟩
    · obtain ⟨t, ht, L⟩ := ih (by omega) (by omega)
      have hlen : (m.take k).length = k := by rw [List.length_take]; omega
      obtain ⟨x, r, hxr⟩ : ∃ x r, m.take k = x :: r := by
        cases hc : m.take k with
        | nil => rw [hc] at hlen; simp at hlen; omega
        | cons x r => exact ⟨x, r, rfl⟩
      have hlast : (x :: r).getLastD x = ith m (k - 1) := by
        rw [← hxr, List.getLastD_eq_getLast?, List.getLast?_eq_getElem?, hlen]
        have : (m.take k)[k - 1]? = some (ith m (k - 1)) := by
          rw [List.getElem?_take, if_pos (by omega), List.getElem?_eq_getElem (by omega), ith_get (by omega)]
        rw [this]; rfl
      have hs : oneT P (m.take (k + 1)) = stepT P t (ith m (k - 1)) (ith m k) := by
        rw [ith_takeT (by omega), hxr, oneT_snoc (by rw [← hxr]; exact ht), hlast]
      rw [hs] at hpre ⊢
      cases hu : stepT P t (ith m (k - 1)) (ith m k) with
      | none => rw [hu] at hpre; cases hpre
      | some u => exact ⟨u, rfl, life_step hP (by omega) (by omega) L hu⟩
theorem life_all {P : List (List I3)} (hP : okL P) {m : List I3} (hm : 0 < m.length) {t : Tk} (h : oneT P m = some t) : LifeT P m m.length t := by
  obtain ⟨u, hu, L⟩ := life_upto hP (m := m) (by rw [h]; rfl) m.length hm (Nat.le_refl _)
  rw [List.take_length, h] at hu
  injection hu with hu
  subst hu
  exact L

end Go.Proofs.YtfhlligcbpnkkaaDoor

/-
  Layer 14's words: which tenants may be, and what each call is to answer, as plain functions. Over no program but for '==' on tenants.
-/
import Derived.Test.YtpfnoohcilefhaaRows
import Derived.Test.YtpfnoohcilefhaaTen
import Derived.Test.YtpfnoohcilefhaaKit
import Derived.Laws.StructEq
namespace Go.Proofs.Ytpfnoohcilefhaa
open Go.RowKit

def okTn (x : Tn) : Prop := (1 ≤ x.wt ∧ x.wt ≤ 16) ∧ (0 ≤ x.qu ∧ x.qu ≤ 256) ∧ (0 ≤ x.li ∧ x.li ≤ x.qu) ∧ (0 ≤ x.tg ∧ x.tg ≤ 1152921504606846976) ∧ (0 ≤ x.rn ∧ x.rn ≤ 1099511627776)
instance (x : Tn) : Decidable (okTn x) := by unfold okTn; exact inferInstance
def okLn (l : List Tn) : Prop := (1 ≤ l.length ∧ l.length ≤ 16) ∧ ∀ j, j < l.length → okTn (tth l j)
instance (l : List Tn) : Decidable (okLn l) := by unfold okLn; exact inferInstance
def chkLn (l : List Tn) : Int := if okLn l then 0 else 1
def findLn (l : List Tn) (i : Int) : Int := if okLn l then (if 0 ≤ i ∧ i < l.length then 0 else 5) else 1
def moreTn (by_ r : Int) (x : Tn) : Int × Tn := if 0 ≤ x.li + by_ ∧ x.li + by_ ≤ x.qu then (0, { x with li := x.li + by_ }) else (r, x)
def countTn (u : Int) (x : Tn) : Int × Tn := if u < 0 then (1, x) else if u ≤ 1099511627776 - x.rn then (0, { x with rn := x.rn + u }) else (4, x)
def changeLn (f : Tn → Int × Tn) (l : List Tn) (i : Int) : Int × List Tn :=
  if findLn l i = 0 then (if (f (tth l i.toNat)).1 = 0 then (0, l.set i.toNat (f (tth l i.toNat)).2) else ((f (tth l i.toNat)).1, [])) else (findLn l i, [])
abbrev admitLn (l : List Tn) (i : Int) : Int × List Tn := changeLn (moreTn 1 10) l i
abbrev leaveLn (l : List Tn) (i : Int) : Int × List Tn := changeLn (moreTn (-1) 9) l i
abbrev countLn (l : List Tn) (i u : Int) : Int × List Tn := changeLn (countTn u) l i
def makeLn (w q : List Int) : List Tn := (List.range w.length).map (fun j => ⟨nth w j, nth q j, 0, 0, 0⟩)
def newLn (w q : List Int) : Int × List Tn := if w.length = q.length ∧ okLn (makeLn w q) then (0, makeLn w q) else (1, [])
def liveS (l : List Tn) : Int := (l.map Tn.li).sum
def ranS (l : List Tn) : Int := (l.map Tn.rn).sum
def allLn (l : List Tn) : Int × Int × Int := if okLn l then (liveS l, ranS l, 0) else (0, 0, 1)

theorem chkLn_yes {l : List Tn} (h : okLn l) : chkLn l = 0 := if_pos h
theorem chkLn_no {l : List Tn} (h : ¬ okLn l) : chkLn l = 1 := if_neg h
theorem findLn_1 {l : List Tn} {i : Int} (h : ¬ okLn l) : findLn l i = 1 := if_neg h
theorem findLn_5 {l : List Tn} {i : Int} (h : okLn l) (k : ¬ (0 ≤ i ∧ i < l.length)) : findLn l i = 5 := by unfold findLn; rw [if_pos h, if_neg k]
theorem findLn_0 {l : List Tn} {i : Int} (h : okLn l) (k : 0 ≤ i ∧ i < l.length) : findLn l i = 0 := by unfold findLn; rw [if_pos h, if_pos k]
theorem findLn_ok {l : List Tn} {i : Int} (h : findLn l i = 0) : okLn l ∧ ∃ k : Nat, i = (k : Int) ∧ k < l.length := by
  unfold findLn at h
  split at h
  · rename_i ho
    split at h
    · exact ⟨ho, i.toNat, by omega, by omega⟩
    · cases h
  · cases h
theorem changeLn_no {f : Tn → Int × Tn} {l : List Tn} {i e : Int} (h : findLn l i = e) (k : e ≠ 0) : changeLn f l i = (e, []) := by unfold changeLn; rw [h, if_neg k]
theorem changeLn_err {f : Tn → Int × Tn} {l : List Tn} {k : Nat} {e : Int} {y : Tn} (h : findLn l k = 0) (hf : f (tth l k) = (e, y)) (he : e ≠ 0) : changeLn f l k = (e, []) := by
  unfold changeLn; rw [h, if_pos rfl, Int.toNat_natCast, hf, if_neg he]
theorem changeLn_ok {f : Tn → Int × Tn} {l : List Tn} {k : Nat} {y : Tn} (h : findLn l k = 0) (hf : f (tth l k) = (0, y)) : changeLn f l k = (0, l.set k y) := by
  unfold changeLn; rw [h, if_pos rfl, Int.toNat_natCast, hf, if_pos rfl]
theorem moreTn_ok {b r : Int} {x : Tn} (h : 0 ≤ x.li + b ∧ x.li + b ≤ x.qu) : moreTn b r x = (0, { x with li := x.li + b }) := if_pos h
theorem moreTn_no {b r : Int} {x : Tn} (h : ¬ (0 ≤ x.li + b ∧ x.li + b ≤ x.qu)) : moreTn b r x = (r, x) := if_neg h
theorem countTn_1 {u : Int} {x : Tn} (h : u < 0) : countTn u x = (1, x) := if_pos h
theorem countTn_4 {u : Int} {x : Tn} (h : ¬ u < 0) (k : ¬ u ≤ 1099511627776 - x.rn) : countTn u x = (4, x) := by unfold countTn; rw [if_neg h, if_neg k]
theorem countTn_0 {u : Int} {x : Tn} (h : ¬ u < 0) (k : u ≤ 1099511627776 - x.rn) : countTn u x = (0, { x with rn := x.rn + u }) := by unfold countTn; rw [if_neg h, if_pos k]
theorem makeLn_len (w q : List Int) : (makeLn w q).length = w.length := by simp [makeLn]
theorem makeLn_at {w q : List Int} {j : Nat} (h : j < w.length) : tth (makeLn w q) j = ⟨nth w j, nth q j, 0, 0, 0⟩ := by simp [makeLn, tth, List.getD, h]

theorem tn_sum_succ {f : Tn → Int} {l : List Tn} {k : Nat} (h : k < l.length) : ((l.take (k + 1)).map f).sum = ((l.take k).map f).sum + f (tth l k) := by
  rw [List.take_add_one, List.getElem?_eq_getElem h, tth_get h]
  simp only [Option.toList, List.map_append, List.map_cons, List.map_nil, List.sum_append, List.sum_cons, List.sum_nil]
  omega
theorem tn_live_step {l : List Tn} {k : Nat} (h : k < l.length) : liveS (l.take (k + 1)) = liveS (l.take k) + (tth l k).li := tn_sum_succ h
theorem tn_ran_step {l : List Tn} {k : Nat} (h : k < l.length) : ranS (l.take (k + 1)) = ranS (l.take k) + (tth l k).rn := tn_sum_succ h
theorem tn_sums_low {l : List Tn} (h : okLn l) : ∀ k, k ≤ l.length → (0 ≤ liveS (l.take k) ∧ liveS (l.take k) ≤ 256 * k) ∧ 0 ≤ ranS (l.take k) ∧ ranS (l.take k) ≤ 1099511627776 * k
  | 0, _ => by simp [liveS, ranS]
  | k + 1, hk => by
    obtain ⟨⟨a, b⟩, c, d⟩ := tn_sums_low h k (by omega)
    obtain ⟨-, ⟨-, x2⟩, ⟨x3, x4⟩, -, x5, x6⟩ := h.2 k (by omega)
    rw [tn_live_step (by omega), tn_ran_step (by omega)]
    omega

theorem okTn_more {x : Tn} {b r : Int} (h : okTn x) : okTn (moreTn b r x).2 := by
  unfold moreTn
  obtain ⟨h1, h2, h3, h4, h5⟩ := h
  split
  · rename_i q; exact ⟨h1, h2, q, h4, h5⟩
  · exact ⟨h1, h2, h3, h4, h5⟩
theorem okTn_count {x : Tn} {u : Int} (h : okTn x) : okTn (countTn u x).2 := by
  unfold countTn
  obtain ⟨h1, h2, h3, h4, h5, h6⟩ := h
  split
  · exact ⟨h1, h2, h3, h4, h5, h6⟩
  · rename_i q
    split
    · rename_i k; exact ⟨h1, h2, h3, h4, by show 0 ≤ x.rn + u; omega, by show x.rn + u ≤ 1099511627776; omega⟩
    · exact ⟨h1, h2, h3, h4, h5, h6⟩
theorem okLn_set {l : List Tn} (h : okLn l) {k : Nat} (hk : k < l.length) {x : Tn} (hx : okTn x) : okLn (l.set k x) := by
  refine ⟨by rw [List.length_set]; exact h.1, fun j hj => ?_⟩
  rw [List.length_set] at hj
  rw [tth_set hk]
  split
  · exact hx
  · exact h.2 j hj
theorem changeLn_okLn {f : Tn → Int × Tn} (hf : ∀ x, okTn x → okTn (f x).2) {l : List Tn} {i : Int} {p : List Tn} (h : changeLn f l i = (0, p)) : okLn p := by
  unfold changeLn at h
  split at h
  · rename_i q
    obtain ⟨ho, k, rfl, hk⟩ := findLn_ok q
    rw [Int.toNat_natCast] at h
    split at h
    · injection h with _ h; subst h; exact okLn_set ho hk (hf _ (ho.2 k hk))
    · rename_i e; injection h with h _; exact absurd h e
  · rename_i e; injection h with h _; exact absurd h e

/-- '==' on lists of them. -/
def sameTn (a b : List Tn) : Bool := decide (a = b)
theorem sameTn_refl (a : List Tn) : sameTn a a = true := decide_eq_true rfl
theorem sameTn_len {a b : List Tn} (h : a.length ≠ b.length) : sameTn a b = false := decide_eq_false (fun e => h (by rw [e]))
theorem sameTn_at {a b : List Tn} (k : Nat) (h : tth a k ≠ tth b k) : sameTn a b = false := decide_eq_false (fun e => h (by rw [e]))
theorem sameTn_all {a b : List Tn} {n : Nat} (h1 : a.length = n) (h2 : b.length = n) (h : ∀ j, j < n → tth a j = tth b j) : sameTn a b = true := by
  refine decide_eq_true (List.ext_getElem (by omega) fun i hi hj => ?_)
  have := h i (by omega)
  rw [tth_get hi, tth_get hj] at this
  exact this

end Go.Proofs.Ytpfnoohcilefhaa

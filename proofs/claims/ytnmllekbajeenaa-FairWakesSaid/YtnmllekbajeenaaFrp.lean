/-
  Layer 15's words: what units cost, who comes next, and what each call is to answer, as plain functions; and what follows of them. Over no program.
-/
import Derived.Test.YtnmllekbajeenaaTnm
import Derived.Test.YtnmllekbajeenaaFlag
namespace Go.Proofs.Ytnmllekbajeenaa
open Go.RowKit

def mostTag : Int := 1152921504606846976
/-- What one unit costs a weight. -/
def oneFr (w : Int) : Int := 720720 / w
def costFr (w u : Int) : Int × Int := if 1 ≤ w ∧ w ≤ 16 ∧ 0 ≤ u then (if u * oneFr w ≤ 1152921504606846976 then (u * oneFr w, 0) else (0, 4)) else (0, 1)
/-- A tenant's tag is moved by what units cost it: g is how, r the error where it goes out of its bounds. -/
def moveTn (g : Int → Int → Int) (r u : Int) (x : Tn) : Int × Tn :=
  if u < 0 then (1, x) else if u * oneFr x.wt ≤ 1152921504606846976 ∧ 0 ≤ g x.tg (u * oneFr x.wt) ∧ g x.tg (u * oneFr x.wt) ≤ 1152921504606846976 then (0, { x with tg := g x.tg (u * oneFr x.wt) }) else (r, x)
def plusFr (a b : Int) : Int := a + b
def lessFr (a b : Int) : Int := a - b
def chargeLn (l : List Tn) (i u : Int) : Int × List Tn := changeLn (moveTn plusFr 4 u) l i
def refundLn (l : List Tn) (i u : Int) : Int × List Tn := changeLn (moveTn lessFr 9 u) l i
def tgs (l : List Tn) (j : Int) : Int := (tth l j.toNat).tg
def minOf (l : List Tn) (js : List Int) : Int := js.foldl (fun m j => if m < 0 ∨ tgs l j < tgs l m then j else m) (-1)
/-- The places of the busy ones, of the first k. -/
def whoK (bs : List Bool) (k : Nat) : List Int := ((List.range k).filter (fun j => bth bs j)).map (fun j : Nat => (j : Int))
/-- The least of the first k, or -1. -/
def bestK (l : List Tn) (bs : List Bool) (k : Nat) : Int := minOf l (whoK bs k)
def fitFr (l : List Tn) (bs : List Bool) : Prop := okLn l ∧ bs.length = l.length
instance (l : List Tn) (bs : List Bool) : Decidable (fitFr l bs) := by unfold fitFr; exact inferInstance
def fitE (l : List Tn) (bs : List Bool) : Int := if fitFr l bs then 0 else 1
def thereE (l : List Tn) (js : List Int) : Int := if okLn l then (if ∀ q, q < js.length → 0 ≤ nth js q ∧ nth js q < l.length then 0 else 5) else 1
def leastFr (l : List Tn) (bs : List Bool) : Int × Int := if fitFr l bs then (if bestK l bs l.length < 0 then (0, 5) else (bestK l bs l.length, 0)) else (0, 1)
def wakeTag (l : List Tn) (bs : List Bool) (x : Tn) : Int := if bestK l bs l.length < 0 then x.tg else max x.tg (tgs l (bestK l bs l.length))
def wakeFr (l : List Tn) (i : Int) (bs : List Bool) : Int × List Tn :=
  if fitFr l bs then (if 0 ≤ i ∧ i < l.length then (0, l.set i.toNat { tth l i.toNat with tg := wakeTag l bs (tth l i.toNat) }) else (5, [])) else (1, [])
def gapFr (l : List Tn) (i k : Int) : Int × Int := if okLn l then (if (0 ≤ i ∧ i < l.length) ∧ 0 ≤ k ∧ k < l.length then (tgs l i - tgs l k, 0) else (0, 5)) else (0, 1)

theorem one_room {w : Int} (h : 1 ≤ w ∧ w ≤ 16) : 45045 ≤ oneFr w ∧ oneFr w ≤ 720720 := by
  unfold oneFr
  obtain ⟨a, b⟩ := h
  have : w = 1 ∨ w = 2 ∨ w = 3 ∨ w = 4 ∨ w = 5 ∨ w = 6 ∨ w = 7 ∨ w = 8 ∨ w = 9 ∨ w = 10 ∨ w = 11 ∨ w = 12 ∨ w = 13 ∨ w = 14 ∨ w = 15 ∨ w = 16 := by omega
  rcases this with rfl | rfl | rfl | rfl | rfl | rfl | rfl | rfl | rfl | rfl | rfl | rfl | rfl | rfl | rfl | rfl <;> decide
theorem one_all {w : Int} (h : 1 ≤ w ∧ w ≤ 16) : oneFr w * w = 720720 := by
  unfold oneFr
  obtain ⟨a, b⟩ := h
  have : w = 1 ∨ w = 2 ∨ w = 3 ∨ w = 4 ∨ w = 5 ∨ w = 6 ∨ w = 7 ∨ w = 8 ∨ w = 9 ∨ w = 10 ∨ w = 11 ∨ w = 12 ∨ w = 13 ∨ w = 14 ∨ w = 15 ∨ w = 16 := by omega
  rcases this with rfl | rfl | rfl | rfl | rfl | rfl | rfl | rfl | rfl | rfl | rfl | rfl | rfl | rfl | rfl | rfl <;> decide
theorem one_tdiv (w : Int) : Int.tdiv 720720 w = oneFr w := Int.tdiv_eq_ediv_of_nonneg (by decide)
theorem one_twice {w : Int} (h : 1 ≤ w ∧ w ≤ 8) : oneFr w = 2 * oneFr (2 * w) := by
  unfold oneFr
  obtain ⟨a, b⟩ := h
  have : w = 1 ∨ w = 2 ∨ w = 3 ∨ w = 4 ∨ w = 5 ∨ w = 6 ∨ w = 7 ∨ w = 8 := by omega
  rcases this with rfl | rfl | rfl | rfl | rfl | rfl | rfl | rfl <;> decide
/-- Units are too many just if what they cost is. -/
theorem cost_room {o u : Int} (ho : 0 < o) : u ≤ 1152921504606846976 / o ↔ u * o ≤ 1152921504606846976 := Int.le_ediv_iff_mul_le ho
theorem cost_nonneg {o u : Int} (ho : 0 < o) (hu : 0 ≤ u) : 0 ≤ u * o := Int.mul_nonneg hu (by omega)

theorem costFr_1 {w u : Int} (h : ¬ (1 ≤ w ∧ w ≤ 16 ∧ 0 ≤ u)) : costFr w u = (0, 1) := if_neg h
theorem costFr_4 {w u : Int} (h : 1 ≤ w ∧ w ≤ 16 ∧ 0 ≤ u) (k : ¬ u * oneFr w ≤ 1152921504606846976) : costFr w u = (0, 4) := by unfold costFr; rw [if_pos h, if_neg k]
theorem costFr_0 {w u : Int} (h : 1 ≤ w ∧ w ≤ 16 ∧ 0 ≤ u) (k : u * oneFr w ≤ 1152921504606846976) : costFr w u = (u * oneFr w, 0) := by unfold costFr; rw [if_pos h, if_pos k]
theorem moveTn_1 {g : Int → Int → Int} {r u : Int} {x : Tn} (h : u < 0) : moveTn g r u x = (1, x) := if_pos h
theorem moveTn_r {g : Int → Int → Int} {r u : Int} {x : Tn} (h : ¬ u < 0) (k : ¬ (u * oneFr x.wt ≤ 1152921504606846976 ∧ 0 ≤ g x.tg (u * oneFr x.wt) ∧ g x.tg (u * oneFr x.wt) ≤ 1152921504606846976)) : moveTn g r u x = (r, x) := by
  unfold moveTn; rw [if_neg h, if_neg k]
theorem moveTn_0 {g : Int → Int → Int} {r u : Int} {x : Tn} (h : ¬ u < 0) (k : u * oneFr x.wt ≤ 1152921504606846976 ∧ 0 ≤ g x.tg (u * oneFr x.wt) ∧ g x.tg (u * oneFr x.wt) ≤ 1152921504606846976) : moveTn g r u x = (0, { x with tg := g x.tg (u * oneFr x.wt) }) := by
  unfold moveTn; rw [if_neg h, if_pos k]
theorem okTn_move {g : Int → Int → Int} {r u : Int} {x : Tn} (h : okTn x) : okTn (moveTn g r u x).2 := by
  unfold moveTn
  obtain ⟨h1, h2, h3, h4, h5⟩ := h
  split
  · exact ⟨h1, h2, h3, h4, h5⟩
  · split
    · rename_i q; exact ⟨h1, h2, h3, q.2, h5⟩
    · exact ⟨h1, h2, h3, h4, h5⟩
theorem move_res {g : Int → Int → Int} {r u : Int} {x : Tn} (hr : r ≠ 0) (h : (moveTn g r u x).1 = 0) :
    0 ≤ u ∧ (u * oneFr x.wt ≤ 1152921504606846976 ∧ 0 ≤ g x.tg (u * oneFr x.wt) ∧ g x.tg (u * oneFr x.wt) ≤ 1152921504606846976) ∧ (moveTn g r u x).2 = { x with tg := g x.tg (u * oneFr x.wt) } := by
  unfold moveTn at h ⊢
  split
  · rename_i q; rw [if_pos q] at h; cases h
  · rename_i q
    rw [if_neg q] at h
    split
    · rename_i k; exact ⟨by omega, k, rfl⟩
    · rename_i k; rw [if_neg k] at h; exact absurd h hr

theorem fitE_0 {l : List Tn} {bs : List Bool} (h : fitFr l bs) : fitE l bs = 0 := if_pos h
theorem fitE_1 {l : List Tn} {bs : List Bool} (h : ¬ fitFr l bs) : fitE l bs = 1 := if_neg h
theorem thereE_1 {l : List Tn} {js : List Int} (h : ¬ okLn l) : thereE l js = 1 := if_neg h
theorem thereE_5 {l : List Tn} {js : List Int} (h : okLn l) {q : Nat} (hq : q < js.length) (hn : ¬ (0 ≤ nth js q ∧ nth js q < l.length)) : thereE l js = 5 := by
  unfold thereE; rw [if_pos h, if_neg (fun a => hn (a q hq))]
theorem thereE_0 {l : List Tn} {js : List Int} (h : okLn l) (k : ∀ q, q < js.length → 0 ≤ nth js q ∧ nth js q < l.length) : thereE l js = 0 := by unfold thereE; rw [if_pos h, if_pos k]
theorem there_one (l : List Tn) (i : Int) : thereE l [i] = findLn l i := by
  unfold thereE findLn
  have : (∀ q, q < [i].length → 0 ≤ nth [i] q ∧ nth [i] q < l.length) ↔ (0 ≤ i ∧ i < l.length) := by
    constructor
    · intro h; exact h 0 (by simp)
    · intro h q hq
      obtain rfl : q = 0 := by simpa using hq
      exact h
  simp only [this]
theorem there_two (l : List Tn) (i k : Int) : thereE l [i, k] = (gapFr l i k).2 := by
  unfold thereE gapFr
  have : (∀ q, q < [i, k].length → 0 ≤ nth [i, k] q ∧ nth [i, k] q < l.length) ↔ ((0 ≤ i ∧ i < l.length) ∧ 0 ≤ k ∧ k < l.length) := by
    constructor
    · intro h; exact ⟨h 0 (by simp), h 1 (by simp)⟩
    · intro h q hq
      have hq : q < 2 := by simpa using hq
      have : q = 0 ∨ q = 1 := by omega
      rcases this with rfl | rfl
      · exact h.1
      · exact h.2
  simp only [this]
  split
  · split <;> rfl
  · rfl

theorem whoK_zero (bs : List Bool) : whoK bs 0 = [] := rfl
theorem whoK_yes {bs : List Bool} {k : Nat} (h : bth bs k = true) : whoK bs (k + 1) = whoK bs k ++ [(k : Int)] := by
  unfold whoK; rw [List.range_succ, List.filter_append, List.map_append]; simp [h]
theorem whoK_no {bs : List Bool} {k : Nat} (h : bth bs k = false) : whoK bs (k + 1) = whoK bs k := by
  unfold whoK; rw [List.range_succ, List.filter_append, List.map_append]; simp [h]
theorem whoK_len (bs : List Bool) (k : Nat) : (whoK bs k).length ≤ k := by
  unfold whoK
  rw [List.length_map]
  exact Nat.le_trans (List.length_filter_le _ _) (by rw [List.length_range]; exact Nat.le_refl _)
theorem whoK_mem {bs : List Bool} {k : Nat} {j : Int} (h : j ∈ whoK bs k) : ∃ m : Nat, m < k ∧ j = m ∧ bth bs m = true := by
  unfold whoK at h
  obtain ⟨m, hm, rfl⟩ := List.mem_map.1 h
  obtain ⟨h1, h2⟩ := List.mem_filter.1 hm
  exact ⟨m, List.mem_range.1 h1, rfl, h2⟩
theorem whoK_nth {bs : List Bool} {k q : Nat} (h : q < (whoK bs k).length) : ∃ m : Nat, m < k ∧ nth (whoK bs k) q = m ∧ bth bs m = true := by
  rw [nth_get h]; exact whoK_mem (List.getElem_mem h)
theorem minOf_snoc (l : List Tn) (js : List Int) (j : Int) : minOf l (js ++ [j]) = if minOf l js < 0 ∨ tgs l j < tgs l (minOf l js) then j else minOf l js := by
  unfold minOf; rw [List.foldl_append]; rfl
theorem bestK_zero (l : List Tn) (bs : List Bool) : bestK l bs 0 = -1 := rfl
theorem bestK_no {l : List Tn} {bs : List Bool} {k : Nat} (h : bth bs k = false) : bestK l bs (k + 1) = bestK l bs k := by unfold bestK; rw [whoK_no h]
theorem bestK_yes {l : List Tn} {bs : List Bool} {k : Nat} (h : bth bs k = true) : bestK l bs (k + 1) = if bestK l bs k < 0 ∨ (tth l k).tg < tgs l (bestK l bs k) then (k : Int) else bestK l bs k := by
  unfold bestK; rw [whoK_yes h, minOf_snoc]; rfl
/-- r is the least of the first k. -/
def Best (l : List Tn) (bs : List Bool) (k : Nat) (r : Int) : Prop :=
  (r = -1 ∧ ∀ j, j < k → bth bs j = false) ∨ ∃ m : Nat, m < k ∧ r = m ∧ bth bs m = true ∧ ∀ j, j < k → bth bs j = true → (tth l m).tg < (tth l j).tg ∨ (tth l m).tg = (tth l j).tg ∧ m ≤ j
theorem tgs_nat (l : List Tn) (k : Nat) : tgs l (k : Int) = (tth l k).tg := rfl
theorem best_spec (l : List Tn) (bs : List Bool) : ∀ k, Best l bs k (bestK l bs k)
  | 0 => .inl ⟨rfl, fun j hj => by omega⟩
  | k + 1 => by
    have ih := best_spec l bs k
    cases hb : bth bs k with
    | false =>
      rw [bestK_no hb]
      rcases ih with ⟨h1, h2⟩ | ⟨m, h1, h2, h3, h4⟩
      · exact .inl ⟨h1, fun j hj => by
          rcases Nat.lt_or_ge j k with h | h
          · exact h2 j h
          · obtain rfl : j = k := by omega
            exact hb⟩
      · exact .inr ⟨m, by omega, h2, h3, fun j hj ht => by
          rcases Nat.lt_or_ge j k with h | h
          · exact h4 j h ht
          · obtain rfl : j = k := by omega
            rw [hb] at ht; cases ht⟩
    | true =>
      rw [bestK_yes hb]
      rcases ih with ⟨h1, h2⟩ | ⟨m, h1, h2, h3, h4⟩
      · rw [h1, if_pos (.inl (by decide))]
        exact .inr ⟨k, by omega, rfl, hb, fun j hj ht => by
          rcases Nat.lt_or_ge j k with h | h
          · rw [h2 j h] at ht; cases ht
          · obtain rfl : j = k := by omega
            exact .inr ⟨rfl, Nat.le_refl _⟩⟩
      · rw [h2, tgs_nat]
        split
        · rename_i q
          have q : (tth l k).tg < (tth l m).tg := by
            rcases q with q | q
            · omega
            · exact q
          exact .inr ⟨k, by omega, rfl, hb, fun j hj ht => by
            rcases Nat.lt_or_ge j k with h | h
            · have := h4 j h ht; omega
            · obtain rfl : j = k := by omega
              exact .inr ⟨rfl, Nat.le_refl _⟩⟩
        · rename_i q
          have q : ¬ (tth l k).tg < (tth l m).tg := fun e => q (.inr e)
          exact .inr ⟨m, by omega, rfl, h3, fun j hj ht => by
            rcases Nat.lt_or_ge j k with h | h
            · exact h4 j h ht
            · obtain rfl : j = k := by omega
              omega⟩
theorem best_cases (l : List Tn) (bs : List Bool) (k : Nat) : bestK l bs k = -1 ∨ ∃ m : Nat, m < k ∧ bestK l bs k = m ∧ bth bs m = true := by
  rcases best_spec l bs k with ⟨h, _⟩ | ⟨m, h1, h2, h3, _⟩
  · exact .inl h
  · exact .inr ⟨m, h1, h2, h3⟩

theorem leastFr_1 {l : List Tn} {bs : List Bool} (h : ¬ fitFr l bs) : leastFr l bs = (0, 1) := if_neg h
theorem leastFr_5 {l : List Tn} {bs : List Bool} (h : fitFr l bs) (k : bestK l bs l.length < 0) : leastFr l bs = (0, 5) := by unfold leastFr; rw [if_pos h, if_pos k]
theorem leastFr_0 {l : List Tn} {bs : List Bool} (h : fitFr l bs) (k : ¬ bestK l bs l.length < 0) : leastFr l bs = (bestK l bs l.length, 0) := by unfold leastFr; rw [if_pos h, if_neg k]
theorem wakeFr_1 {l : List Tn} {i : Int} {bs : List Bool} (h : ¬ fitFr l bs) : wakeFr l i bs = (1, []) := if_neg h
theorem wakeFr_5 {l : List Tn} {i : Int} {bs : List Bool} (h : fitFr l bs) (k : ¬ (0 ≤ i ∧ i < l.length)) : wakeFr l i bs = (5, []) := by unfold wakeFr; rw [if_pos h, if_neg k]
theorem wakeFr_0 {l : List Tn} {k : Nat} {bs : List Bool} (h : fitFr l bs) (hk : k < l.length) : wakeFr l k bs = (0, l.set k { tth l k with tg := wakeTag l bs (tth l k) }) := by
  unfold wakeFr; rw [if_pos h, if_pos (by omega), Int.toNat_natCast]
theorem wakeTag_no {l : List Tn} {bs : List Bool} {x : Tn} (h : bestK l bs l.length < 0) : wakeTag l bs x = x.tg := if_pos h
theorem wakeTag_yes {l : List Tn} {bs : List Bool} {x : Tn} {m : Nat} (h : bestK l bs l.length = m) : wakeTag l bs x = max x.tg (tth l m).tg := by
  unfold wakeTag; rw [h, if_neg (by omega)]; rfl
theorem wakeTag_room {l : List Tn} {bs : List Bool} {x : Tn} (h : okLn l) (hx : okTn x) : 0 ≤ wakeTag l bs x ∧ wakeTag l bs x ≤ 1152921504606846976 := by
  obtain ⟨-, -, -, h4, -⟩ := hx
  rcases best_cases l bs l.length with e | ⟨m, hm, e, -⟩
  · rw [wakeTag_no (by omega)]; exact h4
  · rw [wakeTag_yes e]
    obtain ⟨-, -, -, g4, -⟩ := h.2 m hm
    omega
theorem gapFr_1 {l : List Tn} {i k : Int} (h : ¬ okLn l) : gapFr l i k = (0, 1) := if_neg h
theorem gapFr_5 {l : List Tn} {i k : Int} (h : okLn l) (q : ¬ ((0 ≤ i ∧ i < l.length) ∧ 0 ≤ k ∧ k < l.length)) : gapFr l i k = (0, 5) := by unfold gapFr; rw [if_pos h, if_neg q]
theorem gapFr_0 {l : List Tn} {i k : Nat} (h : okLn l) (hi : i < l.length) (hk : k < l.length) : gapFr l i k = ((tth l i).tg - (tth l k).tg, 0) := by
  unfold gapFr; rw [if_pos h, if_pos (by omega)]; rfl

end Go.Proofs.Ytnmllekbajeenaa

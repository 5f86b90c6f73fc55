/-
  Layer 14: what follows of the plain answers: who is admitted, and leaves, leaves all as they were; units counted in two goes; two tenants do not touch one another.
-/
import Derived.Test.YtnmllekbajeenaaTnp
namespace Go.Proofs.Ytnmllekbajeenaa
open Go.RowKit

theorem changeLn_inv {f : Tn → Int × Tn} {l : List Tn} {i : Int} {p : List Tn} (h : changeLn f l i = (0, p)) :
    okLn l ∧ ∃ k : Nat, i = (k : Int) ∧ k < l.length ∧ (f (tth l k)).1 = 0 ∧ p = l.set k (f (tth l k)).2 := by
  unfold changeLn at h
  split at h
  · rename_i q
    obtain ⟨ho, k, rfl, hk⟩ := findLn_ok q
    rw [Int.toNat_natCast] at h
    split at h
    · rename_i e; injection h with _ h; exact ⟨ho, k, rfl, hk, e, h.symm⟩
    · rename_i e; injection h with h _; exact absurd h e
  · rename_i e; injection h with h _; exact absurd h e
theorem findLn_nat {l : List Tn} (h : okLn l) {k : Nat} (hk : k < l.length) : findLn l k = 0 := findLn_0 h (by omega)
theorem changeLn_at {f : Tn → Int × Tn} {l : List Tn} (h : okLn l) {k : Nat} (hk : k < l.length) (hf : (f (tth l k)).1 = 0) : changeLn f l k = (0, l.set k (f (tth l k)).2) :=
  changeLn_ok (findLn_nat h hk) (by rw [← hf])
theorem changeLn_bad {f : Tn → Int × Tn} {l : List Tn} (h : okLn l) {k : Nat} (hk : k < l.length) (hf : (f (tth l k)).1 ≠ 0) : changeLn f l k = ((f (tth l k)).1, []) :=
  changeLn_err (y := (f (tth l k)).2) (findLn_nat h hk) rfl hf
theorem set_tth {l : List Tn} {k : Nat} (h : k < l.length) : l.set k (tth l k) = l := by rw [tth_get h]; exact List.set_getElem_self h
theorem more_res {b r : Int} {x : Tn} (hr : r ≠ 0) (h : (moreTn b r x).1 = 0) : (0 ≤ x.li + b ∧ x.li + b ≤ x.qu) ∧ (moreTn b r x).2 = { x with li := x.li + b } := by
  unfold moreTn at h ⊢
  split
  · rename_i q; exact ⟨q, rfl⟩
  · rename_i q; rw [if_neg q] at h; exact absurd h hr

/-- Who is admitted, and leaves. -/
theorem admit_leave {l : List Tn} {i : Int} {x : List Tn} (h : admitLn l i = (0, x)) : leaveLn x i = (0, l) := by
  obtain ⟨ho, k, rfl, hk, h1, rfl⟩ := changeLn_inv h
  obtain ⟨⟨q1, q2⟩, h2⟩ := more_res (by decide) h1
  rw [h2]
  have hkt := ho.2 k hk
  have hx : okLn (l.set k { tth l k with li := (tth l k).li + 1 }) := okLn_set ho hk (by rw [← h2]; exact okTn_more hkt)
  have hs : tth (l.set k { tth l k with li := (tth l k).li + 1 }) k = { tth l k with li := (tth l k).li + 1 } := by rw [tth_set hk, if_pos rfl]
  have hm : moreTn (-1) 9 (tth (l.set k { tth l k with li := (tth l k).li + 1 }) k) = (0, tth l k) := by
    obtain ⟨-, -, ⟨h3, h4⟩, -⟩ := hkt
    rw [hs, moreTn_ok (by show 0 ≤ (tth l k).li + 1 + -1 ∧ (tth l k).li + 1 + -1 ≤ (tth l k).qu; omega)]
    show (0, ({ wt := (tth l k).wt, qu := (tth l k).qu, li := (tth l k).li + 1 + -1, tg := (tth l k).tg, rn := (tth l k).rn } : Tn)) = (0, tth l k)
    rw [show (tth l k).li + 1 + -1 = (tth l k).li by omega]
  unfold leaveLn
  rw [changeLn_ok (findLn_nat hx (by rw [List.length_set]; exact hk)) hm, List.set_set, set_tth hk]

theorem count_res {u : Int} {x : Tn} (h : (countTn u x).1 = 0) : (0 ≤ u ∧ u ≤ 1099511627776 - x.rn) ∧ (countTn u x).2 = { x with rn := x.rn + u } := by
  unfold countTn at h ⊢
  split
  · rename_i q; rw [if_pos q] at h; cases h
  · rename_i q
    rw [if_neg q] at h
    split
    · rename_i k; exact ⟨⟨by omega, k⟩, rfl⟩
    · rename_i k; rw [if_neg k] at h; cases h

/-- Units are counted in two goes as in one. -/
theorem count_two {l : List Tn} {i a b : Int} {x : List Tn} (h : countLn l i a = (0, x)) (hb : 0 ≤ b) : countLn x i b = countLn l i (a + b) := by
  obtain ⟨ho, k, rfl, hk, h1, rfl⟩ := changeLn_inv h
  obtain ⟨⟨q1, q2⟩, h2⟩ := count_res h1
  rw [h2]
  have hkt := ho.2 k hk
  have hx : okLn (l.set k { tth l k with rn := (tth l k).rn + a }) := okLn_set ho hk (by rw [← h2]; exact okTn_count hkt)
  have hs : tth (l.set k { tth l k with rn := (tth l k).rn + a }) k = { tth l k with rn := (tth l k).rn + a } := by rw [tth_set hk, if_pos rfl]
  have hk' : k < (l.set k { tth l k with rn := (tth l k).rn + a }).length := by rw [List.length_set]; exact hk
  unfold countLn
  by_cases hc : a + b ≤ 1099511627776 - (tth l k).rn
  · have e1 : countTn (a + b) (tth l k) = (0, { tth l k with rn := (tth l k).rn + (a + b) }) := countTn_0 (by omega) hc
    have e2 : countTn b (tth (l.set k { tth l k with rn := (tth l k).rn + a }) k) = (0, { tth l k with rn := (tth l k).rn + (a + b) }) := by
      rw [hs, countTn_0 (by omega) (by show b ≤ 1099511627776 - ((tth l k).rn + a); omega)]
      show (0, ({ wt := (tth l k).wt, qu := (tth l k).qu, li := (tth l k).li, tg := (tth l k).tg, rn := (tth l k).rn + a + b } : Tn)) = _
      rw [Int.add_assoc]
    rw [changeLn_ok (findLn_nat ho hk) e1, changeLn_ok (findLn_nat hx hk') e2, List.set_set]
  · have e1 : countTn (a + b) (tth l k) = (4, tth l k) := countTn_4 (by omega) hc
    have e2 : countTn b (tth (l.set k { tth l k with rn := (tth l k).rn + a }) k) = (4, { tth l k with rn := (tth l k).rn + a }) := by
      rw [hs]
      exact countTn_4 (by omega) (by show ¬ b ≤ 1099511627776 - ((tth l k).rn + a); omega)
    rw [changeLn_err (findLn_nat ho hk) e1 (by decide), changeLn_err (findLn_nat hx hk') e2 (by decide)]
/-- Units that are too many stay so with more of them. -/
theorem count_more {l : List Tn} {i a b e : Int} {x : List Tn} (h : countLn l i a = (e, x)) (he : e ≠ 0) (ha : 0 ≤ a) (hb : 0 ≤ b) : countLn l i (a + b) = (e, x) := by
  by_cases hf : findLn l i = 0
  · obtain ⟨ho, k, rfl, hk⟩ := findLn_ok hf
    by_cases hc : a ≤ 1099511627776 - (tth l k).rn
    · rw [countLn, changeLn_ok hf (countTn_0 (by omega) hc)] at h
      injection h with h _
      exact absurd h.symm he
    · rw [countLn, changeLn_err hf (countTn_4 (by omega) hc) (by decide)] at h
      rw [countLn, changeLn_err hf (countTn_4 (by omega) (by omega)) (by decide)]
      exact h
  · rw [countLn, changeLn_no rfl hf] at h ⊢
    exact h

/-- Two tenants: the second one is admitted behind the first one as before it; it does not matter who comes first; nobody else is touched. -/
theorem admit_apart {l a b : List Tn} {i k : Int} (hik : i ≠ k) (h : admitLn l i = (0, a)) (g : admitLn l k = (0, b)) : ∃ c, admitLn a k = (0, c) ∧ admitLn b i = (0, c) ∧ okLn l ∧ okLn c ∧ a.length = l.length ∧ liveS c = liveS l + 2 ∧
    ∀ j, j < l.length → (j : Int) ≠ i → tth a j = tth l j := by
  obtain ⟨ho, m, rfl, hm, h1, rfl⟩ := changeLn_inv h
  obtain ⟨-, n, rfl, hn, g1, rfl⟩ := changeLn_inv g
  have hne : m ≠ n := fun e => hik (by rw [e])
  have hxa := okLn_set ho hm (okTn_more (b := 1) (r := 10) (ho.2 m hm))
  have hxb := okLn_set ho hn (okTn_more (b := 1) (r := 10) (ho.2 n hn))
  have ta : tth (l.set m (moreTn 1 10 (tth l m)).2) n = tth l n := by rw [tth_set hm, if_neg (fun e => hne e.symm)]
  have tb : tth (l.set n (moreTn 1 10 (tth l n)).2) m = tth l m := by rw [tth_set hn, if_neg hne]
  have na : n < (l.set m (moreTn 1 10 (tth l m)).2).length := by rw [List.length_set]; exact hn
  have nb : m < (l.set n (moreTn 1 10 (tth l n)).2).length := by rw [List.length_set]; exact hm
  have ea := changeLn_at (f := moreTn 1 10) hxa na (by rw [ta]; exact g1)
  have eb := changeLn_at (f := moreTn 1 10) hxb nb (by rw [tb]; exact h1)
  rw [ta] at ea
  rw [tb] at eb
  have l1 : ∀ (l : List Tn) (k : Nat) (x : Tn), k < l.length → liveS (l.set k x) = liveS l - (tth l k).li + x.li := by
    intro l
    induction l with
    | nil => intro k x hk; simp at hk
    | cons t l ih =>
      intro k x hk
      match k with
      | 0 => simp only [List.set_cons_zero, liveS, List.map_cons, List.sum_cons]; show _ = _ - t.li + _; omega
      | k + 1 =>
        have := ih k x (by simpa using hk)
        rw [tth_succ]
        simp only [List.set_cons_succ, liveS, List.map_cons, List.sum_cons] at this ⊢
        omega
  refine ⟨_, ea, by rw [List.set_comm _ _ hne]; exact eb, ho, okLn_set hxa na (okTn_more (ho.2 n hn)), List.length_set .., ?_, fun j hj hji => ?_⟩
  · rw [l1 _ _ _ na, l1 _ _ _ hm, ta, (more_res (by decide) h1).2, (more_res (by decide) g1).2]
    dsimp only
    omega
  · rw [tth_set hm, if_neg (fun e => hji (by rw [e]))]

theorem allLn_ok {l : List Tn} (h : okLn l) : allLn l = (liveS l, ranS l, 0) := if_pos h
theorem live_room {l : List Tn} (h : okLn l) : 0 ≤ liveS l ∧ liveS l ≤ 4096 := by
  have := tn_sums_low h l.length (Nat.le_refl _)
  rw [List.take_length] at this
  have := h.1.2
  omega

end Go.Proofs.Ytnmllekbajeenaa

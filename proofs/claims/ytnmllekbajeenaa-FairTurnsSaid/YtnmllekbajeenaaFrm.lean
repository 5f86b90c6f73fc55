/-
  Layer 15: what follows of the plain answers: what is charged, and given back; units in two goes; who is waked; turns by weights. Over no program.
-/
import Derived.Test.YtnmllekbajeenaaFrp
namespace Go.Proofs.Ytnmllekbajeenaa
open Go.RowKit

theorem charge_res {l : List Tn} {i u : Int} {a : List Tn} (h : chargeLn l i u = (0, a)) :
    okLn l ∧ okLn a ∧ 0 ≤ u ∧ ∃ k : Nat, i = (k : Int) ∧ k < l.length ∧ 0 ≤ u * oneFr (tth l k).wt ∧ u * oneFr (tth l k).wt ≤ 1152921504606846976 ∧ 0 ≤ (tth l k).tg ∧ (tth l k).tg + u * oneFr (tth l k).wt ≤ 1152921504606846976 ∧ a = l.set k { tth l k with tg := (tth l k).tg + u * oneFr (tth l k).wt } := by
  obtain ⟨ho, k, rfl, hk, h1, h2⟩ := changeLn_inv h
  obtain ⟨hu, ⟨h3, h4, h5⟩, h6⟩ := move_res (by decide) h1
  rw [h6] at h2
  have hw := one_room (ho.2 k hk).1
  exact ⟨ho, changeLn_okLn (fun x hx => okTn_move hx) h, hu, k, rfl, hk, cost_nonneg (by omega) hu, h3, (ho.2 k hk).2.2.2.1.1, h5, h2⟩

theorem charge_at {l : List Tn} {k : Nat} {u : Int} (ho : okLn l) (hk : k < l.length) (hu : 0 ≤ u) (h : (tth l k).tg + u * oneFr (tth l k).wt ≤ 1152921504606846976) :
    chargeLn l k u = (0, l.set k { tth l k with tg := (tth l k).tg + u * oneFr (tth l k).wt }) := by
  have hw := one_room (ho.2 k hk).1
  have hc := cost_nonneg (show 0 < oneFr (tth l k).wt by omega) hu
  have ht := (ho.2 k hk).2.2.2.1.1
  exact changeLn_ok (findLn_nat ho hk) (moveTn_0 (by omega) ⟨by omega, by unfold plusFr; omega, by unfold plusFr; omega⟩)
theorem charge_big {l : List Tn} {k : Nat} {u : Int} (ho : okLn l) (hk : k < l.length) (hu : 0 ≤ u) (h : ¬ (tth l k).tg + u * oneFr (tth l k).wt ≤ 1152921504606846976) :
    chargeLn l k u = (4, []) :=
  changeLn_err (y := tth l k) (findLn_nat ho hk) (moveTn_r (by omega) (by intro q; have := q.2.2; unfold plusFr at this; exact h this)) (by decide)

/-- What is charged, and given back. -/
theorem charge_refund {l : List Tn} {i u : Int} {a : List Tn} (h : chargeLn l i u = (0, a)) : refundLn a i u = (0, l) := by
  obtain ⟨ho, hoa, hu, k, rfl, hk, c0, c1, t0, t1, rfl⟩ := charge_res h
  have hx : tth (l.set k { tth l k with tg := (tth l k).tg + u * oneFr (tth l k).wt }) k = { tth l k with tg := (tth l k).tg + u * oneFr (tth l k).wt } := by rw [tth_set hk, if_pos rfl]
  have hm : moveTn lessFr 9 u (tth (l.set k { tth l k with tg := (tth l k).tg + u * oneFr (tth l k).wt }) k) = (0, tth l k) := by
    rw [hx, moveTn_0 (by omega) (by dsimp only; unfold lessFr; omega)]
    dsimp only
    unfold lessFr
    rw [show (tth l k).tg + u * oneFr (tth l k).wt - u * oneFr (tth l k).wt = (tth l k).tg by omega]
  unfold refundLn
  rw [changeLn_ok (findLn_nat hoa (by rw [List.length_set]; exact hk)) hm, List.set_set, set_tth hk]
theorem charge_len {l : List Tn} {i u : Int} {a : List Tn} (h : chargeLn l i u = (0, a)) : a.length = l.length := by
  obtain ⟨-, -, -, k, -, -, -, -, -, -, rfl⟩ := charge_res h
  exact List.length_set ..

/-- Units in two goes. -/
theorem charge_two {l : List Tn} {i u v : Int} {a : List Tn} (h : chargeLn l i u = (0, a)) (hv : 0 ≤ v) : chargeLn a i v = chargeLn l i (u + v) := by
  have hl := charge_len h
  obtain ⟨ho, hoa, hu, k, rfl, hk, c0, c1, t0, t1, rfl⟩ := charge_res h
  have hka : k < (l.set k { tth l k with tg := (tth l k).tg + u * oneFr (tth l k).wt }).length := by rw [hl]; exact hk
  have hx : tth (l.set k { tth l k with tg := (tth l k).tg + u * oneFr (tth l k).wt }) k = { tth l k with tg := (tth l k).tg + u * oneFr (tth l k).wt } := by rw [tth_set hk, if_pos rfl]
  have hw := one_room (ho.2 k hk).1
  have hc := cost_nonneg (show 0 < oneFr (tth l k).wt by omega) hv
  have hs : (u + v) * oneFr (tth l k).wt = u * oneFr (tth l k).wt + v * oneFr (tth l k).wt := Int.add_mul _ _ _
  by_cases q : (tth l k).tg + (u + v) * oneFr (tth l k).wt ≤ 1152921504606846976
  · rw [charge_at ho hk (by omega) q, charge_at hoa hka hv (by rw [hx]; dsimp only; omega), hx, List.set_set, hs]
    dsimp only
    rw [Int.add_assoc]
  · rw [charge_big ho hk (by omega) q, charge_big hoa hka hv (by rw [hx]; dsimp only; omega)]
/-- What is refused is so with more units. -/
theorem charge_more {l : List Tn} {i u v e : Int} {a : List Tn} (h : chargeLn l i u = (e, a)) (he : e ≠ 0) (hu : 0 ≤ u) (hv : 0 ≤ v) : chargeLn l i (u + v) = (e, a) := by
  by_cases hf : findLn l i = 0
  · obtain ⟨ho, k, rfl, hk⟩ := findLn_ok hf
    have hw := one_room (ho.2 k hk).1
    have hc := cost_nonneg (show 0 < oneFr (tth l k).wt by omega) hv
    have hs : (u + v) * oneFr (tth l k).wt = u * oneFr (tth l k).wt + v * oneFr (tth l k).wt := Int.add_mul _ _ _
    by_cases q : (tth l k).tg + u * oneFr (tth l k).wt ≤ 1152921504606846976
    · rw [charge_at ho hk hu q] at h
      injection h with h _
      exact absurd h.symm he
    · rw [charge_big ho hk hu q] at h
      rw [charge_big ho hk (by omega) (by omega)]
      exact h
  · rw [chargeLn, changeLn_no rfl hf] at h ⊢
    exact h
/-- The others stay; the tag does not fall. -/
theorem charge_rest {l : List Tn} {i u : Int} {a : List Tn} (h : chargeLn l i u = (0, a)) (j : Nat) :
    (tth a j).wt = (tth l j).wt ∧ (tth a j).qu = (tth l j).qu ∧ (tth a j).li = (tth l j).li ∧ (tth l j).tg ≤ (tth a j).tg ∧ (tth a j).rn = (tth l j).rn ∧ ((j : Int) ≠ i → tth a j = tth l j) := by
  obtain ⟨-, -, -, k, rfl, hk, c0, c1, t0, t1, rfl⟩ := charge_res h
  rw [tth_set hk]
  split
  · rename_i e; subst e; exact ⟨rfl, rfl, rfl, by dsimp only; omega, rfl, fun q => absurd rfl q⟩
  · exact ⟨rfl, rfl, rfl, Int.le_refl _, rfl, fun _ => rfl⟩

/-- Costs by the weight. -/
theorem cost_twice {w m : Int} (h : 1 ≤ w ∧ w ≤ 8) (hm : 0 ≤ m ∧ m ≤ 1073741824) : ∃ x y, costFr w m = (x, 0) ∧ costFr (2 * w) m = (y, 0) ∧ x = 2 * y ∧ 0 ≤ y ∧ y ≤ 1152921504606846976 := by
  have h1 := one_room (w := w) ⟨h.1, by omega⟩
  have h2 := one_room (w := 2 * w) ⟨by omega, by omega⟩
  have e := one_twice h
  have b1 : m * oneFr w ≤ 1073741824 * 720720 := Int.le_trans (Int.mul_le_mul_of_nonneg_right hm.2 (by omega)) (Int.mul_le_mul_of_nonneg_left h1.2 (by decide))
  have b2 : m * oneFr (2 * w) ≤ 1073741824 * 720720 := Int.le_trans (Int.mul_le_mul_of_nonneg_right hm.2 (by omega)) (Int.mul_le_mul_of_nonneg_left h2.2 (by decide))
  refine ⟨m * oneFr w, m * oneFr (2 * w), costFr_0 ⟨h.1, by omega, hm.1⟩ (by omega), costFr_0 ⟨by omega, by omega, hm.1⟩ (by omega), ?_, cost_nonneg (by omega) hm.1, by omega⟩
  rw [e, Int.mul_left_comm]

/-- Who is waked. -/
theorem wake_res {l : List Tn} {i : Int} {bs : List Bool} {a : List Tn} (h : wakeFr l i bs = (0, a)) :
    fitFr l bs ∧ okLn a ∧ ∃ k : Nat, i = (k : Int) ∧ k < l.length ∧ a = l.set k { tth l k with tg := wakeTag l bs (tth l k) } := by
  unfold wakeFr at h
  split at h
  · rename_i q
    split at h
    · rename_i r
      obtain ⟨k, rfl⟩ : ∃ k : Nat, i = (k : Int) := ⟨i.toNat, by omega⟩
      have hk : k < l.length := by omega
      rw [Int.toNat_natCast] at h
      injection h with _ h
      subst h
      have hx := q.1.2 k hk
      exact ⟨q, okLn_set q.1 hk ⟨hx.1, hx.2.1, hx.2.2.1, wakeTag_room q.1 hx, hx.2.2.2.2⟩, k, rfl, hk, rfl⟩
    · cases h
  · cases h
theorem wake_no {l : List Tn} {i : Int} {bs : List Bool} {e : Int} {a : List Tn} (h : wakeFr l i bs = (e, a)) (he : e ≠ 0) : a = [] := by
  unfold wakeFr at h
  split at h
  · split at h
    · injection h with h _; exact absurd h.symm he
    · injection h with _ h; exact h.symm
  · injection h with _ h; exact h.symm
theorem wake_len {l : List Tn} {i : Int} {bs : List Bool} {a : List Tn} (h : wakeFr l i bs = (0, a)) : a.length = l.length := by
  obtain ⟨-, -, k, -, -, rfl⟩ := wake_res h
  exact List.length_set ..
theorem wake_rest {l : List Tn} {i : Int} {bs : List Bool} {a : List Tn} (h : wakeFr l i bs = (0, a)) (j : Nat) :
    (tth a j).wt = (tth l j).wt ∧ (tth l j).tg ≤ (tth a j).tg ∧ ((j : Int) ≠ i → tth a j = tth l j) := by
  obtain ⟨-, -, k, rfl, hk, rfl⟩ := wake_res h
  rw [tth_set hk]
  split
  · rename_i e; subst e
    refine ⟨rfl, ?_, fun q => absurd rfl q⟩
    show (tth l j).tg ≤ wakeTag l bs (tth l j)
    unfold wakeTag
    split <;> omega
  · exact ⟨rfl, Int.le_refl _, fun _ => rfl⟩
theorem wake_alone {l : List Tn} {i : Int} {bs : List Bool} {a : List Tn} (h : wakeFr l i bs = (0, a)) (hb : bestK l bs l.length < 0) : a = l := by
  obtain ⟨-, -, k, rfl, hk, rfl⟩ := wake_res h
  rw [wakeTag_no hb]
  exact set_tth hk
theorem wake_tag {l : List Tn} {k m : Nat} {bs : List Bool} {a : List Tn} (h : wakeFr l k bs = (0, a)) (hb : bestK l bs l.length = m) : (tth a k).tg = max (tth l k).tg (tth l m).tg := by
  obtain ⟨-, -, k', e, hk, rfl⟩ := wake_res h
  have e : k = k' := by omega
  subst e
  rw [tth_set hk, if_pos rfl]
  exact wakeTag_yes hb

theorem least_inv {l : List Tn} {bs : List Bool} {e z : Int} (h : leastFr l bs = (z, e)) :
    (e = 0 ∧ fitFr l bs ∧ ∃ m : Nat, z = m ∧ m < l.length ∧ bestK l bs l.length = m ∧ bth bs m = true ∧ ∀ j, j < l.length → bth bs j = true → (tth l m).tg < (tth l j).tg ∨ (tth l m).tg = (tth l j).tg ∧ m ≤ j) ∨
    (e = 5 ∧ z = 0 ∧ fitFr l bs ∧ bestK l bs l.length < 0) ∨ (e = 1 ∧ z = 0 ∧ ¬ fitFr l bs) := by
  unfold leastFr at h
  split at h
  · rename_i q
    split at h
    · rename_i r; injection h with h1 h2; exact .inr (.inl ⟨h2.symm, h1.symm, q, r⟩)
    · rename_i r; injection h with h1 h2
      rcases best_spec l bs l.length with ⟨b, _⟩ | ⟨m, b1, b2, b3, b4⟩
      · rw [b] at r; exact absurd (by decide) r
      · exact .inl ⟨h2.symm, q, m, by rw [← h1, b2], b1, b2, b3, b4⟩
  · rename_i q; injection h with h1 h2; exact .inr (.inr ⟨h2.symm, h1.symm, q⟩)

/-- Two tenants, charged x and y units each by what one costs it. -/
def twoFr (a b x y : Int) : List Tn := [⟨a, 1, 0, x * oneFr a, 0⟩, ⟨b, 1, 0, y * oneFr b, 0⟩]
theorem two_len (a b x y : Int) : (twoFr a b x y).length = 2 := rfl
theorem two_tn {a t : Int} (ha : 1 ≤ a ∧ a ≤ 16) (ht : 0 ≤ t ∧ t ≤ 1152921504606846976) : okTn ⟨a, 1, 0, t, 0⟩ := by unfold okTn; dsimp only; omega
theorem two_new {a b : Int} (ha : 1 ≤ a ∧ a ≤ 16) (hb : 1 ≤ b ∧ b ≤ 16) : okLn (twoFr a b 0 0) := by
  refine ⟨by rw [two_len]; omega, fun j hj => ?_⟩
  have hj : j < 2 := hj
  have : j = 0 ∨ j = 1 := by omega
  rcases this with rfl | rfl
  · show okTn ⟨a, 1, 0, 0 * oneFr a, 0⟩
    rw [Int.zero_mul]; exact two_tn ha (by decide)
  · show okTn ⟨b, 1, 0, 0 * oneFr b, 0⟩
    rw [Int.zero_mul]; exact two_tn hb (by decide)
theorem make_two (a b : Int) : makeLn [a, b] [1, 1] = twoFr a b 0 0 := by
  show [(⟨a, 1, 0, 0, 0⟩ : Tn), ⟨b, 1, 0, 0, 0⟩] = [⟨a, 1, 0, 0 * oneFr a, 0⟩, ⟨b, 1, 0, 0 * oneFr b, 0⟩]
  rw [Int.zero_mul, Int.zero_mul]
theorem two_ok {a b x y : Int} (ha : 1 ≤ a ∧ a ≤ 16) (hb : 1 ≤ b ∧ b ≤ 16) (hx : 0 ≤ x ∧ x ≤ 1000) (hy : 0 ≤ y ∧ y ≤ 1000) : okLn (twoFr a b x y) ∧ (0 ≤ x * oneFr a ∧ x * oneFr a ≤ 720720000) ∧ 0 ≤ y * oneFr b ∧ y * oneFr b ≤ 720720000 := by
  have h1 := one_room ha
  have h2 := one_room hb
  have x0 := cost_nonneg (show 0 < oneFr a by omega) hx.1
  have y0 := cost_nonneg (show 0 < oneFr b by omega) hy.1
  have x1 : x * oneFr a ≤ 1000 * 720720 := Int.le_trans (Int.mul_le_mul_of_nonneg_right hx.2 (by omega)) (Int.mul_le_mul_of_nonneg_left h1.2 (by decide))
  have y1 : y * oneFr b ≤ 1000 * 720720 := Int.le_trans (Int.mul_le_mul_of_nonneg_right hy.2 (by omega)) (Int.mul_le_mul_of_nonneg_left h2.2 (by decide))
  refine ⟨⟨by rw [two_len]; omega, fun j hj => ?_⟩, ⟨x0, by omega⟩, y0, by omega⟩
  have hj : j < 2 := hj
  have : j = 0 ∨ j = 1 := by omega
  rcases this with rfl | rfl
  · show okTn ⟨a, 1, 0, x * oneFr a, 0⟩
    exact two_tn ha ⟨x0, by omega⟩
  · show okTn ⟨b, 1, 0, y * oneFr b, 0⟩
    exact two_tn hb ⟨y0, by omega⟩
theorem two_least {a b x y : Int} (h : okLn (twoFr a b x y)) : leastFr (twoFr a b x y) [true, true] = (if y * oneFr b < x * oneFr a then 1 else 0, 0) := by
  have hb : bestK (twoFr a b x y) [true, true] (twoFr a b x y).length = if y * oneFr b < x * oneFr a then 1 else 0 := by
    show bestK (twoFr a b x y) [true, true] 2 = _
    have e1 : bestK (twoFr a b x y) [true, true] 1 = ((0 : Nat) : Int) := by rw [bestK_yes (k := 0) rfl, bestK_zero]; exact if_pos (.inl (by decide))
    rw [bestK_yes (k := 1) rfl, e1]
    show (if ((0 : Nat) : Int) < 0 ∨ y * oneFr b < x * oneFr a then ((1 : Nat) : Int) else ((0 : Nat) : Int)) = _
    by_cases q : y * oneFr b < x * oneFr a
    · rw [if_pos q, if_pos (.inr q)]; rfl
    · rw [if_neg q, if_neg (fun e => e.elim (fun e => absurd e (by decide)) q)]; rfl
  rw [leastFr_0 ⟨h, rfl⟩ (by rw [hb]; split <;> decide), hb]
theorem two_one {a b x y : Int} (ha : 1 ≤ a ∧ a ≤ 16) (hb : 1 ≤ b ∧ b ≤ 16) (hx : 0 ≤ x ∧ x ≤ 999) (hy : 0 ≤ y ∧ y ≤ 999) : chargeLn (twoFr a b x y) 0 1 = (0, twoFr a b (x + 1) y) ∧ chargeLn (twoFr a b x y) 1 1 = (0, twoFr a b x (y + 1)) := by
  have h1 := one_room ha
  have h2 := one_room hb
  obtain ⟨ho, ⟨-, q1⟩, -, q2⟩ := two_ok ha hb (x := x) (y := y) ⟨hx.1, by omega⟩ ⟨hy.1, by omega⟩
  constructor
  · have := charge_at (k := 0) (u := 1) ho (by rw [two_len]; omega) (by decide) (by show x * oneFr a + 1 * oneFr a ≤ 1152921504606846976; omega)
    refine this.trans ?_
    show ((0 : Int), [(⟨a, 1, 0, x * oneFr a + 1 * oneFr a, 0⟩ : Tn), ⟨b, 1, 0, y * oneFr b, 0⟩]) = (0, [⟨a, 1, 0, (x + 1) * oneFr a, 0⟩, ⟨b, 1, 0, y * oneFr b, 0⟩])
    rw [Int.add_mul]
  · have := charge_at (k := 1) (u := 1) ho (by rw [two_len]; omega) (by decide) (by show y * oneFr b + 1 * oneFr b ≤ 1152921504606846976; omega)
    refine this.trans ?_
    show ((0 : Int), [(⟨a, 1, 0, x * oneFr a, 0⟩ : Tn), ⟨b, 1, 0, y * oneFr b + 1 * oneFr b, 0⟩]) = (0, [⟨a, 1, 0, x * oneFr a, 0⟩, ⟨b, 1, 0, (y + 1) * oneFr b, 0⟩])
    rw [Int.add_mul]
/-- Tags held against each other are units by weights held against each other. -/
theorem two_cmp {a b x y : Int} (ha : 1 ≤ a ∧ a ≤ 16) (hb : 1 ≤ b ∧ b ≤ 16) (h : x * oneFr a ≤ y * oneFr b) : x * b ≤ y * a := by
  have e1 := one_all ha
  have e2 := one_all hb
  have k : x * oneFr a * (a * b) ≤ y * oneFr b * (a * b) := Int.mul_le_mul_of_nonneg_right h (Int.mul_nonneg (by omega) (by omega))
  have l1 : x * oneFr a * (a * b) = 720720 * (x * b) := by
    rw [← e1]; simp only [Int.mul_comm, Int.mul_left_comm, Int.mul_assoc]
  have l2 : y * oneFr b * (a * b) = 720720 * (y * a) := by
    rw [← e2]; simp only [Int.mul_comm, Int.mul_left_comm, Int.mul_assoc]
  rw [l1, l2] at k
  omega
theorem two_room {a x : Int} (ha : 1 ≤ a ∧ a ≤ 16) (hx : -1 ≤ x ∧ x ≤ 1000) : -16 ≤ x * a ∧ x * a ≤ 16000 := by
  obtain ⟨a1, a2⟩ := ha
  have : a = 1 ∨ a = 2 ∨ a = 3 ∨ a = 4 ∨ a = 5 ∨ a = 6 ∨ a = 7 ∨ a = 8 ∨ a = 9 ∨ a = 10 ∨ a = 11 ∨ a = 12 ∨ a = 13 ∨ a = 14 ∨ a = 15 ∨ a = 16 := by omega
  rcases this with rfl | rfl | rfl | rfl | rfl | rfl | rfl | rfl | rfl | rfl | rfl | rfl | rfl | rfl | rfl | rfl <;> omega

/-- The chapter's example. -/
def wantFr : List Int := [0, 1, 1, 0, 1, 1]
def stFr : Nat → List Tn
  | 0 => [⟨1, 1, 0, 0, 0⟩, ⟨2, 1, 0, 0, 0⟩]
  | k + 1 => (chargeLn (stFr k) (nth wantFr k) 1).2
theorem st_new : newLn [1, 2] [1, 1] = (0, stFr 0) := by decide +kernel
theorem st_step : ∀ k, k < 6 → leastFr (stFr k) [true, true] = (nth wantFr k, 0) ∧ chargeLn (stFr k) (nth wantFr k) 1 = (0, stFr (k + 1)) ∧ (stFr (k + 1)).length = 2 := by decide +kernel
theorem st_want : ∀ k, k < 6 → ∃ j : Nat, nth wantFr k = j ∧ j < 2 := by
  intro k hk
  have : k = 0 ∨ k = 1 ∨ k = 2 ∨ k = 3 ∨ k = 4 ∨ k = 5 := by omega
  rcases this with rfl | rfl | rfl | rfl | rfl | rfl
  · exact ⟨0, rfl, by decide⟩
  · exact ⟨1, rfl, by decide⟩
  · exact ⟨1, rfl, by decide⟩
  · exact ⟨0, rfl, by decide⟩
  · exact ⟨1, rfl, by decide⟩
  · exact ⟨1, rfl, by decide⟩

end Go.Proofs.Ytnmllekbajeenaa

/-
  Chains as lists: what it is that links stand for lists, that they stand for one alone, and what a push, a pop, a cut and a join make of them: plain mathematics, over no program.
-/
import Derived.Test.YtiheeehegjfmgaaQs
namespace Go.Proofs.Ytiheeehegjfmgaa

/-- What stands behind place p of a list; its first one, and its last one (-1: none). -/
def nxOf (l : List Int) (p : Nat) : Int := if p + 1 < l.length then nth l (p + 1) else -1
def headO (l : List Int) : Int := if l.length = 0 then -1 else nth l 0
def lastO (l : List Int) : Int := if l.length = 0 then -1 else nth l (l.length - 1)
theorem headO_nil : headO [] = -1 := rfl
theorem lastO_nil : lastO [] = -1 := rfl
theorem headO_at {l : List Int} (h : 0 < l.length) : headO l = nth l 0 := if_neg (by omega)
theorem lastO_at {l : List Int} (h : 0 < l.length) : lastO l = nth l (l.length - 1) := if_neg (by omega)

/-- The links stand for the lists. -/
structure Rep (next head tail : List Int) (qs : List (List Int)) : Prop where
  few : next.length ≤ 1024
  l1 : 1 ≤ qs.length
  l2 : qs.length ≤ 256
  lh : head.length = qs.length
  lt : tail.length = qs.length
  rng : ∀ i p, i < qs.length → p < (qth qs i).length → 0 ≤ nth (qth qs i) p ∧ nth (qth qs i) p < (next.length : Int)
  one : ∀ i j p q, i < qs.length → j < qs.length → p < (qth qs i).length → q < (qth qs j).length → nth (qth qs i) p = nth (qth qs j) q → i = j ∧ p = q
  hd : ∀ i, i < qs.length → nth head i = headO (qth qs i)
  tl : ∀ i, i < qs.length → nth tail i = lastO (qth qs i)
  nx : ∀ i p, i < qs.length → p < (qth qs i).length → nth next (nth (qth qs i) p).toNat = nxOf (qth qs i) p
  out : ∀ x, x < next.length → (∀ i p, i < qs.length → p < (qth qs i).length → nth (qth qs i) p ≠ (x : Int)) → nth next x = -2

/-- Places of two lists that are gone through by the same links are the same. -/
theorem path_eq {next l l' : List Int} (h0 : headO l = headO l') (hl : ∀ p, p < l.length → 0 ≤ nth l p) (hl' : ∀ p, p < l'.length → 0 ≤ nth l' p)
    (hn : ∀ p, p < l.length → nth next (nth l p).toNat = nxOf l p) (hn' : ∀ p, p < l'.length → nth next (nth l' p).toNat = nxOf l' p) :
    ∀ p, (p < l.length ↔ p < l'.length) ∧ (p < l.length → nth l p = nth l' p) := by
  intro p
  induction p with
  | zero =>
    unfold headO at h0
    by_cases a : l.length = 0 <;> by_cases b : l'.length = 0
    · exact ⟨by omega, fun h => by omega⟩
    · rw [if_pos a, if_neg b] at h0
      have := hl' 0 (by omega)
      omega
    · rw [if_neg a, if_pos b] at h0
      have := hl 0 (by omega)
      omega
    · rw [if_neg a, if_neg b] at h0
      exact ⟨by omega, fun _ => h0⟩
  | succ p ih =>
    obtain ⟨i1, i2⟩ := ih
    by_cases a : p < l.length
    · have b := i1.1 a
      have e := i2 a
      have h1 := hn p a
      have h2 := hn' p b
      rw [e, h2] at h1
      unfold nxOf at h1
      by_cases c : p + 1 < l.length <;> by_cases d : p + 1 < l'.length
      · rw [if_pos c, if_pos d] at h1
        exact ⟨by omega, fun _ => h1.symm⟩
      · rw [if_pos c, if_neg d] at h1
        have := hl (p + 1) c
        omega
      · rw [if_neg c, if_pos d] at h1
        have := hl' (p + 1) d
        omega
      · exact ⟨by omega, fun h => by omega⟩
    · have b : ¬ p < l'.length := fun h => a (i1.2 h)
      exact ⟨by omega, fun h => by omega⟩
theorem path_same {next l l' : List Int} (h0 : headO l = headO l') (hl : ∀ p, p < l.length → 0 ≤ nth l p) (hl' : ∀ p, p < l'.length → 0 ≤ nth l' p)
    (hn : ∀ p, p < l.length → nth next (nth l p).toNat = nxOf l p) (hn' : ∀ p, p < l'.length → nth next (nth l' p).toNat = nxOf l' p) : l = l' := by
  have h := path_eq h0 hl hl' hn hn'
  have hlen : l.length = l'.length := by
    have h1 := (h l.length).1
    have h2 := (h l'.length).1
    omega
  exact ext_nth hlen fun p hp => (h p).2 hp

theorem ext_qth {qs qs' : List (List Int)} (hl : qs.length = qs'.length) (h : ∀ i, i < qs.length → qth qs i = qth qs' i) : qs = qs' :=
  List.ext_getElem hl fun i h1 h2 => by
    have := h i h1
    rwa [qth_get h1, qth_get h2] at this

section
variable {next head tail next' head' tail' : List Int} {qs qs' : List (List Int)}
/-- They stand for one alone. -/
theorem Rep.unique (h : Rep next head tail qs) (h' : Rep next head tail qs') : qs = qs' := by
  have hl : qs.length = qs'.length := by have := h.lh; have := h'.lh; omega
  refine ext_qth hl fun i hi => ?_
  have hi' : i < qs'.length := by omega
  exact path_same (by rw [← h.hd i hi, ← h'.hd i hi']) (fun p hp => (h.rng i p hi hp).1) (fun p hp => (h'.rng i p hi' hp).1) (fun p hp => h.nx i p hi hp) (fun p hp => h'.nx i p hi' hp)

/-- The lists tell the links. -/
theorem Rep.same (h : Rep next head tail qs) (h' : Rep next' head' tail' qs) (hn : next.length = next'.length) : next = next' ∧ head = head' ∧ tail = tail' := by
  refine ⟨ext_nth hn fun x hx => ?_, ext_nth (by rw [h.lh, h'.lh]) fun i hi => ?_, ext_nth (by rw [h.lt, h'.lt]) fun i hi => ?_⟩
  · by_cases hin : ∃ i p, i < qs.length ∧ p < (qth qs i).length ∧ nth (qth qs i) p = (x : Int)
    · obtain ⟨i, p, hi, hp, e⟩ := hin
      have h1 := h.nx i p hi hp
      have h2 := h'.nx i p hi hp
      rw [e] at h1 h2
      simp at h1 h2
      rw [h1, h2]
    · have hno : ∀ i p, i < qs.length → p < (qth qs i).length → nth (qth qs i) p ≠ (x : Int) := fun i p hi hp e => hin ⟨i, p, hi, hp, e⟩
      rw [h.out x hx hno, h'.out x (by omega) hno]
  · have hi' : i < qs.length := by rw [h.lh] at hi; exact hi
    rw [h.hd i hi', h'.hd i hi']
  · have hi' : i < qs.length := by rw [h.lt] at hi; exact hi
    rw [h.tl i hi', h'.tl i hi']

/-- A node is in a list just if its link is not -2. -/
theorem Rep.in_ (h : Rep next head tail qs) {i p : Nat} (hi : i < qs.length) (hp : p < (qth qs i).length) : -1 ≤ nth next (nth (qth qs i) p).toNat := by
  rw [h.nx i p hi hp]
  unfold nxOf
  split
  · rename_i h1; have := (h.rng i (p + 1) hi h1).1; omega
  · omega

open Classical in
/-- Where it is. -/
noncomputable def whereQ (qs : List (List Int)) (x : Int) : Int := if h : ∃ i, i < qs.length ∧ x ∈ qth qs i then (h.choose : Int) else -1
theorem mem_nth {l : List Int} {x : Int} (h : x ∈ l) : ∃ p, p < l.length ∧ nth l p = x := by
  obtain ⟨p, hp, e⟩ := List.getElem_of_mem h
  exact ⟨p, hp, by rw [nth_get hp, e]⟩
theorem nth_mem_ {l : List Int} {p : Nat} (h : p < l.length) : nth l p ∈ l := by rw [nth_get h]; exact List.getElem_mem h
theorem Rep.where_at (h : Rep next head tail qs) {i : Nat} {x : Int} (hi : i < qs.length) (hx : x ∈ qth qs i) : whereQ qs x = (i : Int) := by
  have hex : ∃ i, i < qs.length ∧ x ∈ qth qs i := ⟨i, hi, hx⟩
  rw [whereQ, dif_pos hex]
  obtain ⟨h1, h2⟩ := hex.choose_spec
  obtain ⟨p, hp, e⟩ := mem_nth hx
  obtain ⟨q, hq, e'⟩ := mem_nth h2
  have := (h.one _ _ _ _ h1 hi hq hp (by rw [e, e'])).1
  rw [this]
theorem where_no {x : Int} (h : ∀ i, i < qs.length → x ∉ qth qs i) : whereQ qs x = -1 := by
  rw [whereQ, dif_neg (fun ⟨i, hi, hx⟩ => h i hi hx)]
theorem Rep.out_iff (h : Rep next head tail qs) {x : Nat} (hx : x < next.length) : nth next x = -2 ↔ ∀ i, i < qs.length → (x : Int) ∉ qth qs i := by
  constructor
  · intro e i hi hm
    obtain ⟨p, hp, e'⟩ := mem_nth hm
    have := h.in_ hi hp
    rw [e'] at this
    simp at this
    omega
  · intro hno
    exact h.out x hx fun i p hi hp e => hno i hi (e ▸ nth_mem_ hp)
end

/-! ### New -/
theorem rep_new {n m : Nat} (hn : n ≤ 1024) (h1 : 1 ≤ m) (h2 : m ≤ 256) : Rep (List.replicate n (-2)) (List.replicate m (-1)) (List.replicate m (-1)) (List.replicate m []) := by
  have hq : ∀ i, i < m → qth (List.replicate m ([] : List Int)) i = [] := fun i hi => by rw [qth_get (by simpa using hi)]; simp
  have hm : ∀ i, i < m → nth (List.replicate m (-1)) i = -1 := fun i hi => by rw [nth_get (by simpa using hi)]; simp
  refine ⟨by simpa using hn, by simpa using h1, by simpa using h2, by simp, by simp, fun i p hi hp => ?_, fun i j p q hi hj hp hq' => ?_, fun i hi => ?_, fun i hi => ?_, fun i p hi hp => ?_, fun x hx _ => ?_⟩
  · rw [hq i (by simpa using hi)] at hp; simp at hp
  · rw [hq i (by simpa using hi)] at hp; simp at hp
  · rw [hq i (by simpa using hi), hm i (by simpa using hi)]; rfl
  · rw [hq i (by simpa using hi), hm i (by simpa using hi)]; rfl
  · rw [hq i (by simpa using hi)] at hp; simp at hp
  · rw [nth_get hx]; simp

/-! ### Push -/
theorem nth_snoc_ (xs : List Int) (x : Int) (k : Nat) (h : k < xs.length + 1) : nth (xs ++ [x]) k = if k < xs.length then nth xs k else x := by
  rw [nth_get (by simpa using h), List.getElem_append]
  split
  · rename_i h'; rw [nth_get h']
  · simp

section
variable {next head tail next' head' tail' : List Int} {qs : List (List Int)}
/-- A node that is in no list is put behind list i: whatever the order of the writes. -/
theorem Rep.push (h : Rep next head tail qs) {i x : Nat} (hi : i < qs.length) (hx : x < next.length) (hno : ∀ j, j < qs.length → (x : Int) ∉ qth qs j)
    (hn : next'.length = next.length) (hh : head'.length = head.length) (ht : tail'.length = tail.length)
    (nx : ∀ y, y < next.length → nth next' y = if y = x then -1 else if 0 < (qth qs i).length ∧ (y : Int) = lastO (qth qs i) then (x : Int) else nth next y)
    (hd : ∀ j, j < qs.length → nth head' j = if j = i ∧ (qth qs i).length = 0 then (x : Int) else nth head j)
    (tl : ∀ j, j < qs.length → nth tail' j = if j = i then (x : Int) else nth tail j) : Rep next' head' tail' (qs.set i (qth qs i ++ [(x : Int)])) := by
  have hq : ∀ j, j < qs.length → qth (qs.set i (qth qs i ++ [(x : Int)])) j = if i = j then qth qs i ++ [(x : Int)] else qth qs j := fun j hj => qth_set _ _ _ _ hj
  have hne : ∀ j p, j < qs.length → p < (qth qs j).length → nth (qth qs j) p ≠ (x : Int) := fun j p hj hp e => hno j hj (e ▸ nth_mem_ hp)
  refine ⟨by rw [hn]; exact h.few, by simpa using h.l1, by simpa using h.l2, by rw [hh, h.lh, List.length_set], by rw [ht, h.lt, List.length_set], fun j p hj hp => ?_, fun j k p q hj hk hp hq' e => ?_, fun j hj => ?_, fun j hj => ?_, fun j p hj hp => ?_, fun y hy hy' => ?_⟩
  · replace hj : j < qs.length := by simpa using hj
    rw [hq j hj] at hp ⊢
    rw [hn]
    split at hp
    · rename_i e
      rw [if_pos e]
      have hp' : p < (qth qs i).length + 1 := by simpa using hp
      rw [nth_snoc_ _ _ _ hp']
      split
      · rename_i h1; exact h.rng i p hi h1
      · omega
    · rename_i e
      rw [if_neg e]
      exact h.rng j p hj hp
  · replace hj : j < qs.length := by simpa using hj
    replace hk : k < qs.length := by simpa using hk
    rw [hq j hj] at hp e
    rw [hq k hk] at hq' e
    by_cases e1 : i = j <;> by_cases e2 : i = k
    · rw [if_pos e1] at hp e
      rw [if_pos e2] at hq' e
      have hp' : p < (qth qs i).length + 1 := by simpa using hp
      have hq2 : q < (qth qs i).length + 1 := by simpa using hq'
      rw [nth_snoc_ _ _ _ hp', nth_snoc_ _ _ _ hq2] at e
      refine ⟨by omega, ?_⟩
      by_cases a : p < (qth qs i).length <;> by_cases b : q < (qth qs i).length
      · rw [if_pos a, if_pos b] at e
        exact (h.one i i p q hi hi a b e).2
      · rw [if_pos a, if_neg b] at e
        exact absurd e (hne i p hi a)
      · rw [if_neg a, if_pos b] at e
        exact absurd e.symm (hne i q hi b)
      · omega
    · rw [if_pos e1] at hp e
      rw [if_neg e2] at hq' e
      have hp' : p < (qth qs i).length + 1 := by simpa using hp
      rw [nth_snoc_ _ _ _ hp'] at e
      split at e
      · rename_i a
        exact absurd (h.one i k p q hi hk a hq' e).1 e2
      · exact absurd e.symm (hne k q hk hq')
    · rw [if_neg e1] at hp e
      rw [if_pos e2] at hq' e
      have hq2 : q < (qth qs i).length + 1 := by simpa using hq'
      rw [nth_snoc_ _ _ _ hq2] at e
      split at e
      · rename_i a
        exact absurd (h.one j i p q hj hi hp a e).1.symm e1
      · exact absurd e (hne j p hj hp)
    · rw [if_neg e1] at hp e
      rw [if_neg e2] at hq' e
      exact h.one j k p q hj hk hp hq' e
  · replace hj : j < qs.length := by simpa using hj
    rw [hd j hj, hq j hj]
    by_cases e : i = j
    · subst e
      rw [if_pos rfl, headO_at (by simp)]
      rw [nth_snoc_ _ _ _ (by omega)]
      by_cases h0 : (qth qs i).length = 0
      · rw [if_pos ⟨rfl, h0⟩, if_neg (by omega)]
      · rw [if_neg (fun h => h0 h.2), if_pos (by omega), h.hd i hi, headO_at (by omega)]
    · rw [if_neg e, if_neg (fun h => e h.1.symm), h.hd j hj]
  · replace hj : j < qs.length := by simpa using hj
    rw [tl j hj, hq j hj]
    by_cases e : i = j
    · subst e
      rw [if_pos rfl, if_pos rfl, lastO_at (by simp), nth_snoc_ _ _ _ (by simp), if_neg (by simp)]
    · rw [if_neg (fun h => e h.symm), if_neg e, h.tl j hj]
  · replace hj : j < qs.length := by simpa using hj
    rw [hq j hj] at hp ⊢
    by_cases e : i = j
    · subst e
      rw [if_pos rfl] at hp ⊢
      have hp' : p < (qth qs i).length + 1 := by simpa using hp
      rw [nth_snoc_ _ _ _ hp']
      unfold nxOf
      by_cases a : p < (qth qs i).length
      · rw [if_pos a, if_pos (by simpa using a), nth_snoc_ _ _ _ (by omega)]
        obtain ⟨r1, r2⟩ := h.rng i p hi a
        have hz : (((nth (qth qs i) p).toNat : Nat) : Int) = nth (qth qs i) p := by omega
        rw [nx _ (by omega), if_neg (by intro e; have := hne i p hi a; omega), hz]
        by_cases b : p + 1 < (qth qs i).length
        · rw [if_neg, if_pos b, h.nx i p hi a]
          · exact if_pos b
          · rintro ⟨_, e⟩
            rw [lastO_at (by omega)] at e
            have := (h.one i i p _ hi hi a (by omega) e).2
            omega
        · rw [if_pos, if_neg b]
          refine ⟨by omega, ?_⟩
          rw [lastO_at (by omega), show (qth qs i).length - 1 = p by omega]
      · rw [if_neg a, if_neg (by simp; omega)]
        simp only [Int.toNat_natCast]
        rw [nx x hx, if_pos rfl]
    · rw [if_neg e] at hp ⊢
      obtain ⟨r1, r2⟩ := h.rng j p hj hp
      have hz : (((nth (qth qs j) p).toNat : Nat) : Int) = nth (qth qs j) p := by omega
      rw [nx _ (by omega), if_neg (by intro e; have := hne j p hj hp; omega), hz, if_neg, h.nx j p hj hp]
      rintro ⟨h0, e'⟩
      rw [lastO_at h0] at e'
      exact e (h.one j i p _ hj hi hp (by omega) e').1.symm
  · rw [hn] at hy
    have hyx : y ≠ x := by
      intro e
      refine hy' i (qth qs i).length (by simpa using hi) (by rw [hq i hi, if_pos rfl]; simp) ?_
      rw [hq i hi, if_pos rfl, nth_snoc_ _ _ _ (by omega), if_neg (by omega), e]
    have hno2 : ∀ j p, j < qs.length → p < (qth qs j).length → nth (qth qs j) p ≠ (y : Int) := by
      intro j p hj hp
      have := hy' j p (by simpa using hj)
      rw [hq j hj] at this
      by_cases e : i = j
      · rw [if_pos e] at this
        subst e
        have := this (by simp; omega)
        rwa [nth_snoc_ _ _ _ (by omega), if_pos hp] at this
      · rw [if_neg e] at this
        exact this hp
    rw [nx y hy, if_neg hyx, if_neg, h.out y hy hno2]
    rintro ⟨h0, e⟩
    rw [lastO_at h0] at e
    exact hno2 i _ hi (by omega) e.symm
end

/-! ### Cut (and Pop, where p = 0) -/
theorem nth_erase (l : List Int) (p q : Nat) : nth (l.eraseIdx p) q = if q < p then nth l q else nth l (q + 1) := by
  unfold nth List.getD
  rw [List.getElem?_eraseIdx]
  split <;> rfl
theorem len_erase {l : List Int} {p : Nat} (hp : p < l.length) : (l.eraseIdx p).length = l.length - 1 := List.length_eraseIdx_of_lt hp

section
variable {next head tail next' head' tail' : List Int} {qs : List (List Int)}
theorem Rep.cut (h : Rep next head tail qs) {i p : Nat} (hi : i < qs.length) (hp : p < (qth qs i).length)
    (hn : next'.length = next.length) (hh : head'.length = head.length) (ht : tail'.length = tail.length)
    (nx : ∀ y, y < next.length → nth next' y = if (y : Int) = nth (qth qs i) p then -2 else if 0 < p ∧ (y : Int) = nth (qth qs i) (p - 1) then nxOf (qth qs i) p else nth next y)
    (hd : ∀ j, j < qs.length → nth head' j = if j = i ∧ p = 0 then nxOf (qth qs i) 0 else nth head j)
    (tl : ∀ j, j < qs.length → nth tail' j = if j = i ∧ p + 1 = (qth qs i).length then (if p = 0 then -1 else nth (qth qs i) (p - 1)) else nth tail j) :
    Rep next' head' tail' (qs.set i ((qth qs i).eraseIdx p)) := by
  have hq : ∀ j, j < qs.length → qth (qs.set i ((qth qs i).eraseIdx p)) j = if i = j then (qth qs i).eraseIdx p else qth qs j := fun j hj => qth_set _ _ _ _ hj
  have hL := len_erase hp
  -- each place of the lists behind was one before, and not the one that is cut
  have old : ∀ j q, j < qs.length → q < (qth (qs.set i ((qth qs i).eraseIdx p)) j).length → ∃ q', q' < (qth qs j).length ∧ nth (qth (qs.set i ((qth qs i).eraseIdx p)) j) q = nth (qth qs j) q' ∧ ((i = j ∧ q' = if q < p then q else q + 1) ∨ (i ≠ j ∧ q' = q)) := by
    intro j q hj hqq
    rw [hq j hj] at hqq ⊢
    by_cases e : i = j
    · subst e
      rw [if_pos rfl] at hqq ⊢
      rw [hL] at hqq
      rw [nth_erase]
      by_cases a : q < p
      · exact ⟨q, by omega, by rw [if_pos a], .inl ⟨rfl, by rw [if_pos a]⟩⟩
      · exact ⟨q + 1, by omega, by rw [if_neg a], .inl ⟨rfl, by rw [if_neg a]⟩⟩
    · rw [if_neg e] at hqq ⊢
      exact ⟨q, hqq, rfl, .inr ⟨e, rfl⟩⟩
  refine ⟨by rw [hn]; exact h.few, by simpa using h.l1, by simpa using h.l2, by rw [hh, h.lh, List.length_set], by rw [ht, h.lt, List.length_set], fun j q hj hqq => ?_, fun j k q r hj hk hqq hr e => ?_, fun j hj => ?_, fun j hj => ?_, fun j q hj hqq => ?_, fun y hy hy' => ?_⟩
  · replace hj : j < qs.length := by simpa using hj
    obtain ⟨q', h1, h2, _⟩ := old j q hj hqq
    rw [h2, hn]
    exact h.rng j q' hj h1
  · replace hj : j < qs.length := by simpa using hj
    replace hk : k < qs.length := by simpa using hk
    obtain ⟨q', h1, h2, h3⟩ := old j q hj hqq
    obtain ⟨r', g1, g2, g3⟩ := old k r hk hr
    rw [h2, g2] at e
    obtain ⟨e1, e2⟩ := h.one j k q' r' hj hk h1 g1 e
    subst e1
    refine ⟨rfl, ?_⟩
    rcases h3 with ⟨_, h3⟩ | ⟨_, h3⟩ <;> rcases g3 with ⟨_, g3⟩ | ⟨_, g3⟩
    · rw [h3, g3] at e2
      split at e2 <;> split at e2 <;> omega
    · omega
    · omega
    · omega
  · replace hj : j < qs.length := by simpa using hj
    rw [hd j hj, hq j hj]
    by_cases e : i = j
    · subst e
      rw [if_pos rfl]
      by_cases h0 : p = 0
      · subst h0
        rw [if_pos ⟨rfl, rfl⟩]
        unfold nxOf headO
        rw [hL]
        by_cases a : 0 + 1 < (qth qs i).length
        · rw [if_pos a, if_neg (by omega), nth_erase, if_neg (by omega)]
        · rw [if_neg a, if_pos (by omega)]
      · rw [if_neg (fun h => h0 h.2), h.hd i hi, headO_at (by omega), headO_at (by omega), nth_erase, if_pos (by omega)]
    · rw [if_neg e, if_neg (fun h => e h.1.symm), h.hd j hj]
  · replace hj : j < qs.length := by simpa using hj
    rw [tl j hj, hq j hj]
    by_cases e : i = j
    · subst e
      rw [if_pos rfl]
      by_cases h0 : p + 1 = (qth qs i).length
      · rw [if_pos ⟨rfl, h0⟩]
        by_cases a : p = 0
        · rw [if_pos a]
          unfold lastO
          rw [hL, if_pos (by omega)]
        · rw [if_neg a, lastO_at (by omega), hL, nth_erase, if_pos (by omega), show (qth qs i).length - 1 - 1 = p - 1 by omega]
      · rw [if_neg (fun h => h0 h.2), h.tl i hi, lastO_at (by omega), lastO_at (by omega), hL, nth_erase, if_neg (by omega), show (qth qs i).length - 1 - 1 + 1 = (qth qs i).length - 1 by omega]
    · rw [if_neg e, if_neg (fun h => e h.1.symm), h.tl j hj]
  · replace hj : j < qs.length := by simpa using hj
    obtain ⟨q', h1, h2, h3⟩ := old j q hj hqq
    obtain ⟨r1, r2⟩ := h.rng j q' hj h1
    have hz : (((nth (qth qs j) q').toNat : Nat) : Int) = nth (qth qs j) q' := by omega
    have hnx := h.nx j q' hj h1
    rw [h2, nx _ (by omega), hz]
    rw [hq j hj] at hqq ⊢
    rcases h3 with ⟨e, h3⟩ | ⟨e, h3⟩
    · subst e
      rw [if_pos rfl] at hqq ⊢
      rw [hL] at hqq
      have hx : nth (qth qs i) q' ≠ nth (qth qs i) p := fun e => by have := (h.one i i q' p hi hi h1 hp e).2; subst this; split at h3 <;> omega
      rw [if_neg hx]
      by_cases a : 0 < p ∧ nth (qth qs i) q' = nth (qth qs i) (p - 1)
      · rw [if_pos a]
        have := (h.one i i q' (p - 1) hi hi h1 (by omega) a.2).2
        have hqp : q = p - 1 := by split at h3 <;> omega
        unfold nxOf
        rw [hL]
        by_cases b : p + 1 < (qth qs i).length
        · rw [if_pos b, if_pos (by omega), nth_erase, if_neg (by omega), hqp, show p - 1 + 1 + 1 = p + 1 by omega]
        · rw [if_neg b, if_neg (by omega)]
      · rw [if_neg a, hnx]
        have hqp : ¬ (q + 1 = p) := by
          intro e
          refine a ⟨by omega, ?_⟩
          rw [h3, if_pos (by omega), show p - 1 = q by omega]
        unfold nxOf
        rw [hL]
        by_cases b : q < p
        · rw [if_pos b] at h3
          subst h3
          rw [if_pos (by omega), if_pos (by omega), nth_erase, if_pos (by omega)]
        · rw [if_neg b] at h3
          subst h3
          by_cases c : q + 1 + 1 < (qth qs i).length
          · rw [if_pos c, if_pos (by omega), nth_erase, if_neg (by omega)]
          · rw [if_neg c, if_neg (by omega)]
    · subst h3
      rw [if_neg e, hnx, if_neg, if_neg]
      · rintro ⟨h0, e'⟩
        exact e (h.one j i q' (p - 1) hj hi h1 (by omega) e').1.symm
      · intro e'
        exact e (h.one j i q' p hj hi h1 hp e').1.symm
  · rw [hn] at hy
    rw [nx y hy]
    by_cases e : (y : Int) = nth (qth qs i) p
    · rw [if_pos e]
    · rw [if_neg e]
      have hno2 : ∀ j q, j < qs.length → q < (qth qs j).length → nth (qth qs j) q ≠ (y : Int) := by
        intro j q hj hqq
        by_cases ej : i = j
        · subst ej
          by_cases a : q = p
          · subst a; exact fun e' => e e'.symm
          · have hqs : qth (qs.set i ((qth qs i).eraseIdx p)) i = (qth qs i).eraseIdx p := by rw [hq i hi, if_pos rfl]
            by_cases b : q < p
            · have := hy' i q (by simpa using hi) (by rw [hqs, hL]; omega)
              rwa [hqs, nth_erase, if_pos b] at this
            · have := hy' i (q - 1) (by simpa using hi) (by rw [hqs, hL]; omega)
              rwa [hqs, nth_erase, if_neg (by omega), show q - 1 + 1 = q by omega] at this
        · have hqs : qth (qs.set i ((qth qs i).eraseIdx p)) j = qth qs j := by rw [hq j hj, if_neg ej]
          have := hy' j q (by simpa using hj) (by rw [hqs]; exact hqq)
          rwa [hqs] at this
      rw [if_neg, h.out y hy hno2]
      rintro ⟨h0, e'⟩
      exact hno2 i _ hi (by omega) e'.symm
end

/-! ### Join -/
theorem nth_app (l r : List Int) (k : Nat) (h : k < l.length + r.length) : nth (l ++ r) k = if k < l.length then nth l k else nth r (k - l.length) := by
  rw [nth_get (by simpa using h), List.getElem_append]
  split
  · rename_i h'; rw [nth_get h']
  · rename_i h'; rw [nth_get (by omega)]

section
variable {next head tail next' head' tail' : List Int} {qs : List (List Int)}
theorem Rep.join (h : Rep next head tail qs) {f t : Nat} (hf : f < qs.length) (htt : t < qs.length) (hft : f ≠ t)
    (hn : next'.length = next.length) (hh : head'.length = head.length) (ht : tail'.length = tail.length)
    (nx : ∀ y, y < next.length → nth next' y = if 0 < (qth qs t).length ∧ 0 < (qth qs f).length ∧ (y : Int) = lastO (qth qs t) then headO (qth qs f) else nth next y)
    (hd : ∀ j, j < qs.length → nth head' j = if j = f then -1 else if j = t ∧ (qth qs t).length = 0 then headO (qth qs f) else nth head j)
    (tl : ∀ j, j < qs.length → nth tail' j = if j = f then -1 else if j = t ∧ 0 < (qth qs f).length then lastO (qth qs f) else nth tail j) :
    Rep next' head' tail' ((qs.set t (qth qs t ++ qth qs f)).set f []) := by
  have hq : ∀ j, j < qs.length → qth ((qs.set t (qth qs t ++ qth qs f)).set f []) j = if f = j then [] else if t = j then qth qs t ++ qth qs f else qth qs j := by
    intro j hj
    rw [qth_set _ _ _ _ (by simpa using hj)]
    split
    · rfl
    · rw [qth_set _ _ _ _ hj]
  -- each place was one before
  have old : ∀ j q, j < qs.length → q < (qth ((qs.set t (qth qs t ++ qth qs f)).set f []) j).length → ∃ j' q', j' < qs.length ∧ q' < (qth qs j').length ∧ nth (qth ((qs.set t (qth qs t ++ qth qs f)).set f []) j) q = nth (qth qs j') q' ∧
      ((j ≠ f ∧ j ≠ t ∧ j' = j ∧ q' = q) ∨ (j = t ∧ j' = t ∧ q' = q) ∨ (j = t ∧ j' = f ∧ q = (qth qs t).length + q')) := by
    intro j q hj hqq
    rw [hq j hj] at hqq ⊢
    by_cases e : f = j
    · rw [if_pos e] at hqq; simp at hqq
    · rw [if_neg e] at hqq ⊢
      by_cases e2 : t = j
      · subst e2
        rw [if_pos rfl] at hqq ⊢
        have hqq' : q < (qth qs t).length + (qth qs f).length := by simpa using hqq
        rw [nth_app _ _ _ hqq']
        by_cases a : q < (qth qs t).length
        · exact ⟨t, q, hj, a, by rw [if_pos a], .inr (.inl ⟨rfl, rfl, rfl⟩)⟩
        · exact ⟨f, q - (qth qs t).length, hf, by omega, by rw [if_neg a], .inr (.inr ⟨rfl, rfl, by omega⟩)⟩
      · rw [if_neg e2] at hqq ⊢
        exact ⟨j, q, hj, hqq, rfl, .inl ⟨fun h => e h.symm, fun h => e2 h.symm, rfl, rfl⟩⟩
  refine ⟨by rw [hn]; exact h.few, by simpa using h.l1, by simpa using h.l2, by rw [hh, h.lh, List.length_set, List.length_set], by rw [ht, h.lt, List.length_set, List.length_set], fun j q hj hqq => ?_, fun j k q r hj hk hqq hr e => ?_, fun j hj => ?_, fun j hj => ?_, fun j q hj hqq => ?_, fun y hy hy' => ?_⟩
  · replace hj : j < qs.length := by simpa using hj
    obtain ⟨j', q', g1, g2, g3, _⟩ := old j q hj hqq
    rw [g3, hn]
    exact h.rng j' q' g1 g2
  · replace hj : j < qs.length := by simpa using hj
    replace hk : k < qs.length := by simpa using hk
    obtain ⟨j', q', g1, g2, g3, g4⟩ := old j q hj hqq
    obtain ⟨k', r', m1, m2, m3, m4⟩ := old k r hk hr
    rw [g3, m3] at e
    obtain ⟨e1, e2⟩ := h.one j' k' q' r' g1 m1 g2 m2 e
    rcases g4 with ⟨a1, a2, a3, a4⟩ | ⟨a1, a2, a3⟩ | ⟨a1, a2, a3⟩ <;> rcases m4 with ⟨b1, b2, b3, b4⟩ | ⟨b1, b2, b3⟩ | ⟨b1, b2, b3⟩ <;> omega
  · replace hj : j < qs.length := by simpa using hj
    rw [hd j hj, hq j hj]
    by_cases e : f = j
    · rw [if_pos e, if_pos e.symm]; rfl
    · rw [if_neg e, if_neg (fun h => e h.symm)]
      by_cases e2 : t = j
      · subst e2
        rw [if_pos rfl]
        by_cases h0 : (qth qs t).length = 0
        · rw [if_pos ⟨rfl, h0⟩, List.eq_nil_of_length_eq_zero h0, List.nil_append]
        · rw [if_neg (fun h => h0 h.2), h.hd t htt, headO_at (by omega), headO_at (by rw [List.length_append]; omega), nth_app _ _ _ (by omega), if_pos (by omega)]
      · rw [if_neg e2, if_neg (fun h => e2 h.1.symm), h.hd j hj]
  · replace hj : j < qs.length := by simpa using hj
    rw [tl j hj, hq j hj]
    by_cases e : f = j
    · rw [if_pos e, if_pos e.symm]; rfl
    · rw [if_neg e, if_neg (fun h => e h.symm)]
      by_cases e2 : t = j
      · subst e2
        rw [if_pos rfl]
        by_cases h0 : 0 < (qth qs f).length
        · rw [if_pos ⟨rfl, h0⟩, lastO_at h0, lastO_at (by rw [List.length_append]; omega), nth_app _ _ _ (by rw [List.length_append]; omega), List.length_append, if_neg (by omega), show (qth qs t).length + (qth qs f).length - 1 - (qth qs t).length = (qth qs f).length - 1 by omega]
        · rw [if_neg (fun h => h0 h.2), h.tl t htt, List.eq_nil_of_length_eq_zero (Nat.eq_zero_of_not_pos h0), List.append_nil]
      · rw [if_neg e2, if_neg (fun h => e2 h.1.symm), h.tl j hj]
  · replace hj : j < qs.length := by simpa using hj
    obtain ⟨j', q', g1, g2, g3, g4⟩ := old j q hj hqq
    obtain ⟨r1, r2⟩ := h.rng j' q' g1 g2
    have hz : (((nth (qth qs j') q').toNat : Nat) : Int) = nth (qth qs j') q' := by omega
    rw [g3, nx _ (by omega), hz, h.nx j' q' g1 g2]
    rcases g4 with ⟨a1, a2, a3, a4⟩ | ⟨a1, a2, a3⟩ | ⟨a1, a2, a3⟩
    · subst a3 a4
      have hc : ¬ (0 < (qth qs t).length ∧ 0 < (qth qs f).length ∧ nth (qth qs j') q' = lastO (qth qs t)) := by
        rintro ⟨h0, _, e'⟩
        rw [lastO_at h0] at e'
        exact a2 (h.one j' t q' _ g1 htt g2 (by omega) e').1
      rw [if_neg hc, hq j' hj, if_neg (fun h => a1 h.symm), if_neg (fun h => a2 h.symm)]
    · subst a1 a2 a3
      rw [hq j' hj, if_neg hft, if_pos rfl]
      by_cases a : 0 < (qth qs j').length ∧ 0 < (qth qs f).length ∧ nth (qth qs j') q' = lastO (qth qs j')
      · rw [if_pos a]
        have e' := a.2.2
        rw [lastO_at a.1] at e'
        have := (h.one j' j' q' _ hj hj g2 (by omega) e').2
        unfold nxOf
        rw [List.length_append, if_pos (by omega), nth_app _ _ _ (by omega), if_neg (by omega), show q' + 1 - (qth qs j').length = 0 by omega, headO_at a.2.1]
      · rw [if_neg a]
        unfold nxOf
        rw [List.length_append]
        by_cases b : q' + 1 < (qth qs j').length
        · rw [if_pos b, if_pos (by omega), nth_app _ _ _ (by omega), if_pos b]
        · rw [if_neg b, if_neg]
          intro hc
          refine a ⟨by omega, by omega, ?_⟩
          rw [lastO_at (by omega), show (qth qs j').length - 1 = q' by omega]
    · subst a1 a2
      have hc : ¬ (0 < (qth qs j).length ∧ 0 < (qth qs j').length ∧ nth (qth qs j') q' = lastO (qth qs j)) := by
        rintro ⟨h0, _, e'⟩
        rw [lastO_at h0] at e'
        exact hft (h.one j' j q' _ g1 hj g2 (by omega) e').1
      rw [if_neg hc, hq j hj, if_neg hft, if_pos rfl]
      unfold nxOf
      rw [List.length_append]
      by_cases b : q' + 1 < (qth qs j').length
      · rw [if_pos b, if_pos (by omega), nth_app _ _ _ (by omega), if_neg (by omega), show q + 1 - (qth qs j).length = q' + 1 by omega]
      · rw [if_neg b, if_neg (by omega)]
  · rw [hn] at hy
    have hno2 : ∀ j q, j < qs.length → q < (qth qs j).length → nth (qth qs j) q ≠ (y : Int) := by
      intro j q hj hqq
      by_cases e : j = f
      · subst e
        have := hy' t ((qth qs t).length + q) (by simpa using htt) (by rw [hq t htt, if_neg hft, if_pos rfl, List.length_append]; omega)
        rwa [hq t htt, if_neg hft, if_pos rfl, nth_app _ _ _ (by omega), if_neg (by omega), Nat.add_sub_cancel_left] at this
      · by_cases e2 : j = t
        · subst e2
          have := hy' j q (by simpa using hj) (by rw [hq j hj, if_neg hft, if_pos rfl, List.length_append]; omega)
          rwa [hq j hj, if_neg hft, if_pos rfl, nth_app _ _ _ (by omega), if_pos hqq] at this
        · have := hy' j q (by simpa using hj) (by rw [hq j hj, if_neg (fun h => e h.symm), if_neg (fun h => e2 h.symm)]; exact hqq)
          rwa [hq j hj, if_neg (fun h => e h.symm), if_neg (fun h => e2 h.symm)] at this
    rw [nx y hy, if_neg, h.out y hy hno2]
    rintro ⟨h0, _, e⟩
    rw [lastO_at h0] at e
    exact hno2 t _ htt (by omega) e.symm

/-- A list without a node that is in it once. -/
theorem erase_filter {l : List Int} {p : Nat} (hp : p < l.length) (h1 : ∀ q, q < l.length → nth l q = nth l p → q = p) : l.filter (fun y => y != nth l p) = l.eraseIdx p := by
  induction l generalizing p with
  | nil => simp at hp
  | cons x l ih =>
    cases p with
    | zero =>
      have e : nth (x :: l) 0 = x := rfl
      rw [List.filter_cons, e]
      simp only [bne_self_eq_false, Bool.false_eq_true, if_false, List.eraseIdx_cons_zero]
      refine List.filter_eq_self.2 fun y hy => ?_
      obtain ⟨q, hq, e'⟩ := List.getElem_of_mem hy
      have := h1 (q + 1) (by simpa using hq)
      simp only [bne_iff_ne, ne_eq]
      intro e2
      have h3 : nth (x :: l) (q + 1) = nth (x :: l) 0 := by rw [nth_get (by simpa using hq)]; simp [e', e2, nth]
      exact absurd (this h3) (by omega)
    | succ p =>
      have e : nth (x :: l) (p + 1) = nth l p := rfl
      rw [List.filter_cons, e]
      have hx : x ≠ nth l p := by
        intro e2
        have := h1 0 (by simp) (by rw [e]; exact e2)
        omega
      rw [if_pos (by simpa using hx), List.eraseIdx_cons_succ]
      congr 1
      exact ih (by simpa using hp) fun q hq e2 => by
        have := h1 (q + 1) (by simpa using hq) e2
        omega
end

end Go.Proofs.Ytiheeehegjfmgaa

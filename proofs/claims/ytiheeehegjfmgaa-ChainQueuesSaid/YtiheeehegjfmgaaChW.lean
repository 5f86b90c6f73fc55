/-
  Links gone through, list by list, with those that were met: if it ends well they stand for the lists that were gathered, and where it breaks off they stand for none: plain mathematics, over no program.
-/
import Derived.Test.YtiheeehegjfmgaaChM
import Derived.Test.YtiheeehegjfmgaaPlc
namespace Go.Proofs.Ytiheeehegjfmgaa

theorem qth_snoc (out : List (List Int)) (l : List Int) (j : Nat) (h : j < out.length + 1) : qth (out ++ [l]) j = if j < out.length then qth out j else l := by
  rw [qth_get (by simpa using h), List.getElem_append]
  split
  · rename_i h'; rw [qth_get h']
  · simp

/-- The state: lists that are gathered whole, the one under way, where one is, and who was met. -/
structure Par (next head tail : List Int) (out : List (List Int)) (l : List Int) (at_ : Int) (met : List Bool) : Prop where
  ml : met.length = next.length
  rng : ∀ i p, i < out.length + 1 → p < (qth (out ++ [l]) i).length → 0 ≤ nth (qth (out ++ [l]) i) p ∧ nth (qth (out ++ [l]) i) p < (next.length : Int)
  one : ∀ i j p q, i < out.length + 1 → j < out.length + 1 → p < (qth (out ++ [l]) i).length → q < (qth (out ++ [l]) j).length → nth (qth (out ++ [l]) i) p = nth (qth (out ++ [l]) j) q → i = j ∧ p = q
  mt : ∀ x, x < next.length → (bth met x = true ↔ ∃ i p, i < out.length + 1 ∧ p < (qth (out ++ [l]) i).length ∧ nth (qth (out ++ [l]) i) p = (x : Int))
  hd : ∀ j, j < out.length → nth head j = headO (qth out j)
  tl : ∀ j, j < out.length → nth tail j = lastO (qth out j)
  nx : ∀ j p, j < out.length → p < (qth out j).length → nth next (nth (qth out j) p).toNat = nxOf (qth out j) p
  c0 : l.length = 0 → at_ = nth head out.length
  c1 : 0 < l.length → nth l 0 = nth head out.length ∧ at_ = nth next (nth l (l.length - 1)).toNat
  c2 : ∀ p, p + 1 < l.length → nth next (nth l p).toNat = nth l (p + 1)

section
variable {next head tail : List Int} {out : List (List Int)} {l : List Int} {at_ : Int} {met : List Bool} {qs : List (List Int)}

theorem par_start (next head tail : List Int) : Par next head tail [] [] (nth head 0) (List.replicate next.length false) := by
  have e : ∀ i, i < ([] : List (List Int)).length + 1 → qth (([] : List (List Int)) ++ [[]]) i = [] := fun i hi => by rw [qth_snoc _ _ _ hi]; simp
  refine ⟨by simp, fun i p hi hp => ?_, fun i j p q hi hj hp _ _ => ?_, fun x hx => ?_, fun j hj => by simp at hj, fun j hj => by simp at hj, fun j p hj => by simp at hj, fun _ => rfl, fun h => by simp at h, fun p hp => by simp at hp⟩
  · rw [e i hi] at hp; simp at hp
  · rw [e i hi] at hp; simp at hp
  · rw [bth_get (by simpa using hx)]
    simp only [List.getElem_replicate, Bool.false_eq_true, false_iff]
    rintro ⟨i, p, hi, hp, _⟩
    rw [e i hi] at hp; simp at hp

theorem Par.ends (h : Par next head tail out l at_ met) {p : Nat} (hp : p < l.length) : 0 ≤ nth l p ∧ nth l p < (next.length : Int) := by
  have := h.rng out.length p (by omega)
  rw [qth_snoc _ _ _ (by omega), if_neg (by omega)] at this
  exact this hp

/-- One goes on by a node that was not met. -/
theorem Par.step (h : Par next head tail out l at_ met) {x : Nat} (hx : at_ = (x : Int)) (hlt : x < next.length) (hm : bth met x = false) :
    Par next head tail out (l ++ [at_]) (nth next x) (met.set x true) := by
  have hq : ∀ j, j < out.length + 1 → qth (out ++ [l ++ [at_]]) j = if j < out.length then qth out j else l ++ [at_] := fun j hj => qth_snoc _ _ _ hj
  have hq0 : ∀ j, j < out.length + 1 → qth (out ++ [l]) j = if j < out.length then qth out j else l := fun j hj => qth_snoc _ _ _ hj
  have hno : ∀ i p, i < out.length + 1 → p < (qth (out ++ [l]) i).length → nth (qth (out ++ [l]) i) p ≠ (x : Int) := fun i p hi hp e => by
    have := (h.mt x hlt).2 ⟨i, p, hi, hp, e⟩
    rw [hm] at this; cases this
  -- each place is an old one, or the new one
  have old : ∀ i p, i < out.length + 1 → p < (qth (out ++ [l ++ [at_]]) i).length → (p < (qth (out ++ [l]) i).length ∧ nth (qth (out ++ [l ++ [at_]]) i) p = nth (qth (out ++ [l]) i) p) ∨ (i = out.length ∧ p = l.length ∧ nth (qth (out ++ [l ++ [at_]]) i) p = (x : Int)) := by
    intro i p hi hp
    rw [hq i hi] at hp ⊢
    rw [hq0 i hi]
    by_cases e : i < out.length
    · rw [if_pos e] at hp
      rw [if_pos e, if_pos e]
      exact .inl ⟨hp, rfl⟩
    · rw [if_neg e] at hp
      rw [if_neg e, if_neg e]
      have hp' : p < l.length + 1 := by simpa using hp
      rw [nth_snoc_ _ _ _ hp']
      by_cases a : p < l.length
      · exact .inl ⟨a, if_pos a⟩
      · exact .inr ⟨by omega, by omega, by rw [if_neg a, hx]⟩
  refine ⟨by rw [List.length_set]; exact h.ml, fun i p hi hp => ?_, fun i j p q hi hj hp hq' e => ?_, fun y hy => ?_, h.hd, h.tl, h.nx, fun h0 => by simp at h0, fun _ => ⟨?_, ?_⟩, fun p hp => ?_⟩
  · rcases old i p hi hp with ⟨a, b⟩ | ⟨_, _, b⟩
    · rw [b]; exact h.rng i p hi a
    · rw [b]; omega
  · rcases old i p hi hp with ⟨a, b⟩ | ⟨a1, a2, b⟩ <;> rcases old j q hj hq' with ⟨c, d⟩ | ⟨c1, c2, d⟩
    · rw [b, d] at e; exact h.one i j p q hi hj a c e
    · rw [b, d] at e; exact absurd e (hno i p hi a)
    · rw [b, d] at e; exact absurd e.symm (hno j q hj c)
    · omega
  · rw [bth_set _ _ _ _ (by rw [h.ml]; exact hy)]
    by_cases e : x = y
    · rw [if_pos e]
      refine ⟨fun _ => ⟨out.length, l.length, by omega, ?_, ?_⟩, fun _ => rfl⟩
      · rw [hq _ (by omega), if_neg (by omega)]; simp
      · rw [hq _ (by omega), if_neg (by omega), nth_snoc_ _ _ _ (by omega), if_neg (by omega), hx, e]
    · rw [if_neg e, h.mt y hy]
      constructor
      · rintro ⟨i, p, hi, hp, e'⟩
        refine ⟨i, p, hi, ?_, ?_⟩
        · rw [hq i hi]
          rw [hq0 i hi] at hp
          split at hp
          · rename_i a; rw [if_pos a]; exact hp
          · rename_i a; rw [if_neg a]; simp; omega
        · rw [hq i hi]
          rw [hq0 i hi] at hp e'
          split at hp
          · rename_i a; rw [if_pos a]; rwa [if_pos a] at e'
          · rename_i a
            rw [if_neg a, nth_snoc_ _ _ _ (by omega), if_pos hp]
            rwa [if_neg a] at e'
      · rintro ⟨i, p, hi, hp, e'⟩
        rcases old i p hi hp with ⟨a, b⟩ | ⟨_, _, b⟩
        · exact ⟨i, p, hi, a, by rw [← b]; exact e'⟩
        · rw [b] at e'
          exact absurd (by omega) e
  · rw [nth_snoc_ _ _ _ (by omega)]
    split
    · rename_i a; exact (h.c1 a).1
    · rename_i a; exact h.c0 (by omega)
  · rw [nth_snoc_ _ _ _ (by simp), if_neg (by simp), hx]
    simp
  · have hp' : p < l.length := by simp at hp; omega
    rw [nth_snoc_ _ _ _ (by omega), if_pos hp', nth_snoc_ _ _ _ (by omega)]
    by_cases a : p + 1 < l.length
    · rw [if_pos a]; exact h.c2 p a
    · rw [if_neg a, (h.c1 (by omega)).2, show l.length - 1 = p by omega]

/-- A list is gathered whole. -/
theorem Par.next_ (h : Par next head tail out l at_ met) (ha : at_ = -1) (ht : nth tail out.length = lastO l) : Par next head tail (out ++ [l]) [] (nth head (out.length + 1)) met := by
  have hlen : (out ++ [l]).length = out.length + 1 := by simp
  have hq : ∀ j, j < (out ++ [l]).length + 1 → qth ((out ++ [l]) ++ [[]]) j = if j < out.length + 1 then qth (out ++ [l]) j else [] := fun j hj => by rw [qth_snoc _ _ _ hj, hlen]
  have hin : ∀ j p, j < (out ++ [l]).length + 1 → p < (qth ((out ++ [l]) ++ [[]]) j).length → j < out.length + 1 ∧ qth ((out ++ [l]) ++ [[]]) j = qth (out ++ [l]) j := by
    intro j p hj hp
    rw [hq j hj] at hp ⊢
    by_cases a : j < out.length + 1
    · rw [if_pos a]; exact ⟨a, rfl⟩
    · rw [if_neg a] at hp; simp at hp
  refine ⟨h.ml, fun i p hi hp => ?_, fun i j p q hi hj hp hq' e => ?_, fun y hy => ?_, fun j hj => ?_, fun j hj => ?_, fun j p hj hp => ?_, fun _ => by rw [hlen], fun h0 => by simp at h0, fun p hp => by simp at hp⟩
  · obtain ⟨a, b⟩ := hin i p hi hp
    rw [b] at hp ⊢
    exact h.rng i p a hp
  · obtain ⟨a, b⟩ := hin i p hi hp
    obtain ⟨c, d⟩ := hin j q hj hq'
    rw [b] at hp e
    rw [d] at hq' e
    exact h.one i j p q a c hp hq' e
  · rw [h.mt y hy]
    constructor
    · rintro ⟨i, p, hi, hp, e⟩
      have b : qth ((out ++ [l]) ++ [[]]) i = qth (out ++ [l]) i := by rw [hq i (by omega), if_pos hi]
      exact ⟨i, p, by omega, by rw [b]; exact hp, by rw [b]; exact e⟩
    · rintro ⟨i, p, hi, hp, e⟩
      obtain ⟨a, b⟩ := hin i p hi hp
      rw [b] at hp e
      exact ⟨i, p, a, hp, e⟩
  · rw [hlen] at hj
    rw [qth_snoc _ _ _ hj]
    split
    · rename_i a; exact h.hd j a
    · rename_i a
      obtain rfl : j = out.length := by omega
      unfold headO
      by_cases b : l.length = 0
      · rw [if_pos b, ← h.c0 b, ha]
      · rw [if_neg b, (h.c1 (by omega)).1]
  · rw [hlen] at hj
    rw [qth_snoc _ _ _ hj]
    split
    · rename_i a; exact h.tl j a
    · obtain rfl : j = out.length := by omega
      exact ht
  · rw [hlen] at hj
    rw [qth_snoc _ _ _ hj] at hp ⊢
    by_cases a : j < out.length
    · rw [if_pos a] at hp ⊢; exact h.nx j p a hp
    · rw [if_neg a] at hp ⊢
      unfold nxOf
      by_cases b : p + 1 < l.length
      · rw [if_pos b]; exact h.c2 p b
      · rw [if_neg b, ← ha, (h.c1 (by omega)).2, show l.length - 1 = p by omega]

/-- What is gathered is what the links stand for, if they stand for any. -/
theorem Par.agree (h : Par next head tail out l at_ met) (r : Rep next head tail qs) (ho : out.length ≤ qs.length) : ∀ j, j < out.length → qth out j = qth qs j := by
  intro j hj
  have hj' : j < qs.length := by omega
  have hr : ∀ p, p < (qth out j).length → 0 ≤ nth (qth out j) p := fun p hp => by
    have := h.rng j p (by omega)
    rw [qth_snoc _ _ _ (by omega), if_pos hj] at this
    exact (this hp).1
  exact path_same (by rw [← h.hd j hj, ← r.hd j hj']) hr (fun p hp => (r.rng j p hj' hp).1) (fun p hp => h.nx j p hj hp) (fun p hp => r.nx j p hj' hp)
theorem Par.front (h : Par next head tail out l at_ met) (r : Rep next head tail qs) (ho : out.length < qs.length) : ∀ p, p < l.length → p < (qth qs out.length).length ∧ nth l p = nth (qth qs out.length) p := by
  intro p
  induction p with
  | zero =>
    intro hp
    have h1 := (h.c1 hp).1
    rw [r.hd _ ho] at h1
    have h2 := (h.ends hp).1
    unfold headO at h1
    by_cases a : (qth qs out.length).length = 0
    · rw [if_pos a] at h1; omega
    · rw [if_neg a] at h1; exact ⟨by omega, h1⟩
  | succ p ih =>
    intro hp
    obtain ⟨i1, i2⟩ := ih (by omega)
    have h1 := h.c2 p hp
    rw [i2, r.nx _ p ho i1] at h1
    have h2 := (h.ends hp).1
    unfold nxOf at h1
    by_cases a : p + 1 < (qth qs out.length).length
    · rw [if_pos a] at h1; exact ⟨a, h1.symm⟩
    · rw [if_neg a] at h1; omega
theorem Par.where_ (h : Par next head tail out l at_ met) (r : Rep next head tail qs) (ho : out.length < qs.length) : l.length ≤ (qth qs out.length).length ∧ at_ = if l.length < (qth qs out.length).length then nth (qth qs out.length) l.length else -1 := by
  by_cases h0 : l.length = 0
  · refine ⟨by omega, ?_⟩
    rw [h.c0 h0, r.hd _ ho, h0]
    unfold headO
    by_cases a : (qth qs out.length).length = 0
    · rw [if_pos a, if_neg (by omega)]
    · rw [if_neg a, if_pos (by omega)]
  · obtain ⟨f1, f2⟩ := h.front r ho (l.length - 1) (by omega)
    refine ⟨by omega, ?_⟩
    rw [(h.c1 (by omega)).2, f2, r.nx _ _ ho f1]
    unfold nxOf
    rw [show l.length - 1 + 1 = l.length by omega]

/-- It breaks off: a node that there is none of, or that was met. -/
theorem Par.fail_at (h : Par next head tail out l at_ met) (ho : out.length < head.length) (ha : at_ ≠ -1) (hb : at_ < 0 ∨ (next.length : Int) ≤ at_ ∨ bth met at_.toNat = true) : ¬ Rep next head tail qs := by
  intro r
  have ho' : out.length < qs.length := by have := r.lh; omega
  obtain ⟨w1, w2⟩ := h.where_ r ho'
  by_cases a : l.length < (qth qs out.length).length
  · rw [if_pos a] at w2
    obtain ⟨r1, r2⟩ := r.rng _ _ ho' a
    rcases hb with hb | hb | hb
    · omega
    · omega
    · obtain ⟨i, p, hi, hp, e⟩ := (h.mt at_.toNat (by omega)).1 hb
      have hz : ((at_.toNat : Nat) : Int) = at_ := by omega
      rw [hz, w2] at e
      rw [qth_snoc _ _ _ hi] at hp e
      by_cases c : i < out.length
      · rw [if_pos c] at hp e
        rw [h.agree r (by omega) i c] at hp e
        have := (r.one i out.length p l.length (by omega) ho' hp a e).1
        omega
      · rw [if_neg c] at hp e
        obtain ⟨f1, f2⟩ := h.front r ho' p hp
        rw [f2] at e
        have := (r.one _ _ p l.length ho' ho' f1 a e).2
        omega
  · rw [if_neg a] at w2
    exact ha w2
theorem Par.fail_tail (h : Par next head tail out l at_ met) (ho : out.length < head.length) (ha : at_ = -1) (ht : nth tail out.length ≠ lastO l) : ¬ Rep next head tail qs := by
  intro r
  have ho' : out.length < qs.length := by have := r.lh; omega
  obtain ⟨w1, w2⟩ := h.where_ r ho'
  have hlen : l.length = (qth qs out.length).length := by
    rcases Nat.lt_or_ge l.length (qth qs out.length).length with a | a
    · rw [if_pos a] at w2
      have := (r.rng _ _ ho' a).1
      omega
    · omega
  have e : l = qth qs out.length := ext_nth hlen fun p hp => (h.front r ho' p hp).2
  exact ht (by rw [r.tl _ ho', e])

/-- All lists are gathered: they are what the links stand for, if who was not met is in none. -/
theorem Par.done (h : Par next head tail out [] at_ met) (hf : next.length ≤ 1024) (h1 : 1 ≤ head.length) (h2 : head.length ≤ 256) (ht : tail.length = head.length) (ho : out.length = head.length) (hx : ∀ x, x < next.length → bth met x = false → nth next x = -2) : Rep next head tail out := by
  have hq : ∀ j, j < out.length → qth (out ++ [[]]) j = qth out j := fun j hj => by rw [qth_snoc _ _ _ (by omega), if_pos hj]
  refine ⟨hf, by omega, by omega, by omega, by omega, fun i p hi hp => ?_, fun i j p q hi hj hp hq' e => ?_, h.hd, h.tl, h.nx, fun x hx' hno => ?_⟩
  · have := h.rng i p (by omega)
    rw [hq i hi] at this
    exact this hp
  · have := h.one i j p q (by omega) (by omega)
    rw [hq i hi, hq j hj] at this
    exact this hp hq' e
  · refine hx x hx' ?_
    cases hb : bth met x with
    | false => rfl
    | true =>
      obtain ⟨i, p, hi, hp, e⟩ := (h.mt x hx').1 hb
      rw [qth_snoc _ _ _ hi] at hp e
      by_cases a : i < out.length
      · rw [if_pos a] at hp e
        exact absurd e (hno i p a hp)
      · rw [if_neg a] at hp; simp at hp
theorem Par.fail_out (h : Par next head tail out [] at_ met) (ho : out.length = head.length) {x : Nat} (hx : x < next.length) (hb : bth met x = false) (hn : nth next x ≠ -2) : ¬ Rep next head tail qs := by
  intro r
  have ho' : out.length = qs.length := by have := r.lh; omega
  refine hn (r.out x hx fun i p hi hp e => ?_)
  have : bth met x = true := (h.mt x hx).2 ⟨i, p, by omega, by
    rw [qth_snoc _ _ _ (by omega), if_pos (by omega), h.agree r (by omega) i (by omega)]; exact hp, by
    rw [qth_snoc _ _ _ (by omega), if_pos (by omega), h.agree r (by omega) i (by omega)]; exact e⟩
  rw [hb] at this
  cases this
end

end Go.Proofs.Ytiheeehegjfmgaa

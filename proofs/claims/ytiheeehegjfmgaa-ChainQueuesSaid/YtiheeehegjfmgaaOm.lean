/-
  The state of 'owners': who was met is told by the list that has it: plain mathematics.
-/
import Derived.Test.YtiheeehegjfmgaaChW
namespace Go.Proofs.Ytiheeehegjfmgaa

/-- Who was met, by the lists that have them. -/
def metOf (ins : List Int) : List Bool := ins.map (fun z => z != -1)
theorem metOf_len (ins : List Int) : (metOf ins).length = ins.length := by simp [metOf]
theorem metOf_at {ins : List Int} {x : Nat} (h : x < ins.length) : bth (metOf ins) x = (nth ins x != -1) := by
  rw [bth_get (by rw [metOf_len]; exact h), nth_get h]
  simp [metOf]
theorem metOf_set {ins : List Int} (x i : Nat) : metOf (ins.set x (i : Int)) = (metOf ins).set x true := by
  have : ((i : Int) != -1) = true := by simp
  simp [metOf, List.map_set, this]
theorem metOf_new (n : Nat) : metOf (List.replicate n (-1)) = List.replicate n false := by simp [metOf]

/-- Each that is in a list bears its number. -/
def Who (ins : List Int) (out : List (List Int)) (l : List Int) : Prop :=
  ∀ i p, i < out.length + 1 → p < (qth (out ++ [l]) i).length → nth ins (nth (qth (out ++ [l]) i) p).toNat = (i : Int)

structure OwM (next head tail : List Int) (out : List (List Int)) (l : List Int) (at_ : Int) (ins : List Int) : Prop where
  par : Par next head tail out l at_ (metOf ins)
  who : Who ins out l
  fit : ∀ z ∈ ins, -1 ≤ z ∧ z ≤ 1000000

section
variable {next head tail : List Int} {out : List (List Int)} {l : List Int} {at_ : Int} {ins : List Int} {qs : List (List Int)}
theorem OwM.len (h : OwM next head tail out l at_ ins) : ins.length = next.length := by rw [← metOf_len]; exact h.par.ml
theorem owm_start (next head tail : List Int) : OwM next head tail [] [] (nth head 0) (List.replicate next.length (-1)) := by
  refine ⟨by rw [metOf_new]; exact par_start next head tail, fun i p hi hp => ?_, fun z hz => by rw [(List.mem_replicate.1 hz).2]; omega⟩
  rw [qth_snoc _ _ _ hi] at hp
  simp at hp
theorem OwM.step (h : OwM next head tail out l at_ ins) {x : Nat} (hx : at_ = (x : Int)) (hlt : x < next.length) (hm : nth ins x = -1) (ho : out.length ≤ 1000000) : OwM next head tail out (l ++ [at_]) (nth next x) (ins.set x (out.length : Int)) := by
  have hxl : x < ins.length := by rw [h.len]; exact hlt
  have hbm : bth (metOf ins) x = false := by rw [metOf_at hxl, hm]; rfl
  have hp := h.par.step hx hlt hbm
  rw [← metOf_set] at hp
  refine ⟨hp, fun i p hi hp' => ?_, fun z hz => ?_⟩
  · rw [qth_snoc _ _ _ hi] at hp' ⊢
    by_cases e : i < out.length
    · rw [if_pos e] at hp' ⊢
      have hw := h.who i p hi (by rw [qth_snoc _ _ _ hi, if_pos e]; exact hp')
      have hr := h.par.rng i p hi (by rw [qth_snoc _ _ _ hi, if_pos e]; exact hp')
      rw [qth_snoc _ _ _ hi, if_pos e] at hw hr
      have hne : (nth (qth out i) p).toNat ≠ x := by
        intro e2
        rw [e2, hm] at hw
        omega
      rw [nth_set _ _ _ _ (by rw [h.len]; omega), if_neg (fun e => hne e.symm)]
      exact hw
    · rw [if_neg e] at hp' ⊢
      obtain rfl : i = out.length := by omega
      have hp2 : p < l.length + 1 := by simpa using hp'
      rw [nth_snoc_ _ _ _ hp2]
      by_cases a : p < l.length
      · rw [if_pos a]
        have hw := h.who out.length p hi (by rw [qth_snoc _ _ _ hi, if_neg e]; exact a)
        have hr := h.par.rng out.length p hi (by rw [qth_snoc _ _ _ hi, if_neg e]; exact a)
        rw [qth_snoc _ _ _ hi, if_neg e] at hw hr
        have hne : (nth l p).toNat ≠ x := by
          intro e2
          rw [e2, hm] at hw
          omega
        rw [nth_set _ _ _ _ (by rw [h.len]; omega), if_neg (fun e => hne e.symm)]
        exact hw
      · rw [if_neg a, hx]
        simp only [Int.toNat_natCast]
        rw [nth_set _ _ _ _ hxl, if_pos rfl]
  · rcases List.mem_or_eq_of_mem_set hz with hz | rfl
    · exact h.fit z hz
    · omega
theorem OwM.next_ (h : OwM next head tail out l at_ ins) (ha : at_ = -1) (ht : nth tail out.length = lastO l) : OwM next head tail (out ++ [l]) [] (nth head (out.length + 1)) ins := by
  refine ⟨h.par.next_ ha ht, fun i p hi hp => ?_, h.fit⟩
  have hlen : (out ++ [l]).length = out.length + 1 := by simp
  rw [qth_snoc _ _ _ hi] at hp ⊢
  by_cases a : i < (out ++ [l]).length
  · rw [if_pos a] at hp ⊢
    exact h.who i p (by omega) hp
  · rw [if_neg a] at hp
    simp at hp
/-- Where each node is, as a list. -/
noncomputable def inL (n : Nat) (qs : List (List Int)) : List Int := (List.range n).map (fun (x : Nat) => whereQ qs (x : Int))
theorem inL_len (n : Nat) (qs : List (List Int)) : (inL n qs).length = n := by simp [inL]
theorem inL_at {n x : Nat} (qs : List (List Int)) (h : x < n) : nth (inL n qs) x = whereQ qs (x : Int) := by
  rw [nth_get (by rw [inL_len]; exact h)]; simp [inL]
theorem OwM.done (h : OwM next head tail out [] at_ ins) (r : Rep next head tail out) : ins = inL next.length out := by
  refine ext_nth (by rw [inL_len, h.len]) fun x hx => ?_
  have hxn : x < next.length := by rw [← h.len]; exact hx
  rw [inL_at _ hxn]
  by_cases hin : ∃ i, i < out.length ∧ (x : Int) ∈ qth out i
  · obtain ⟨i, hi, hm⟩ := hin
    rw [r.where_at hi hm]
    obtain ⟨p, hp, e⟩ := mem_nth hm
    have := h.who i p (by omega) (by rw [qth_snoc _ _ _ (by omega), if_pos hi]; exact hp)
    rw [qth_snoc _ _ _ (by omega), if_pos hi, e] at this
    simpa using this
  · rw [where_no fun i hi hm => hin ⟨i, hi, hm⟩]
    by_cases e : nth ins x = -1
    · exact e
    · exfalso
      have hb : bth (metOf ins) x = true := by rw [metOf_at hx]; simpa using e
      obtain ⟨i, p, hi, hp, e2⟩ := (h.par.mt x hxn).1 hb
      rw [qth_snoc _ _ _ hi] at hp e2
      by_cases a : i < out.length
      · rw [if_pos a] at hp e2
        exact hin ⟨i, a, e2 ▸ nth_mem_ hp⟩
      · rw [if_neg a] at hp; simp at hp
end

end Go.Proofs.Ytiheeehegjfmgaa

/-
  Whatever is taken and freed: the mathematics of the law SlotOnce's loop: what was given, what is there, and how high generations are.
-/
import Derived.Test.YtfaajimmammfdaaPlc
namespace Go.Proofs.Ytfaajimmammfdaa

/-- A function, but at one place. (A word that the walk does not open.) -/
def upd (f : Int → Bool) (x : Int) (v : Bool) (y : Int) : Bool := if y = x then v else f y

/-- The state of the loop, by mathematics: all: the ids that were given, z of them; f: which of them are there; ev: whether one was given. -/
structure OnM (n k : Nat) (gs : List Int) (ls : List Bool) (all : List Int) (z : Nat) (f ev : Int → Bool) : Prop where
  once : Once gs ls all f
  ev : ∀ x, ev x = decide (x ∈ all)
  len : all.length = z
  few : z ≤ k
  low : ∀ i, i < gs.length → nth gs i ≤ (k : Int)
  ln : gs.length = n
  lm : ls.length = n

section
variable {n k z : Nat} {gs : List Int} {ls : List Bool} {all : List Int} {f ev : Int → Bool}
theorem OnM.ok (h : OnM n k gs ls all z f ev) : okS gs ls := h.once.ok
theorem OnM.stay (h : OnM n k gs ls all z f ev) : OnM n (k + 1) gs ls all z f ev :=
  ⟨h.once, h.ev, h.len, by have := h.few; omega, fun i hi => by have := h.low i hi; omega, h.ln, h.lm⟩
/-- None is free: all are there. -/
theorem OnM.full (h : OnM n k gs ls all z f ev) (hk : k ≤ 150) (hf : NoFree gs ls) : hereN ls n = n := by
  refine here_all fun i hi => ?_
  have h1 := hf i (by rw [h.ln]; exact hi)
  have h2 := h.low i (by rw [h.ln]; exact hi)
  cases hb : bth ls i with
  | true => rfl
  | false => exact absurd ⟨hb, by omega⟩ h1
theorem OnM.fresh (h : OnM n k gs ls all z f ev) {i : Nat} (hf : IsFirst gs ls i) : ev (idP gs i) = false := by
  rw [h.ev]
  exact decide_eq_false (h.once.new hf)
theorem OnM.take (h : OnM n k gs ls all z f ev) {i : Nat} (hf : IsFirst gs ls i) : OnM n (k + 1) gs (ls.set i true) (all ++ [idP gs i]) (z + 1) (upd f (idP gs i) true) (upd ev (idP gs i) true) := by
  refine ⟨h.once.take hf (fun _ => rfl), fun x => ?_, by rw [List.length_append, h.len]; rfl, by have := h.few; omega, fun j hj => by have := h.low j hj; omega, h.ln, by rw [List.length_set]; exact h.lm⟩
  by_cases e : x = idP gs i
  · subst e
    simp [upd]
  · simp only [upd, if_neg e, h.ev x]
    simp [e]
theorem OnM.here_take (h : OnM n k gs ls all z f ev) {i : Nat} (hf : IsFirst gs ls i) : hereN (ls.set i true) n = hereN ls n + 1 := Go.Proofs.Ytfaajimmammfdaa.here_take h.lm (by have := hf.1; have := h.ln; omega) hf.2.1.1
theorem OnM.free (h : OnM n k gs ls all z f ev) {i : Nat} (hi : i < gs.length) (hl : bth ls i = true) : OnM n (k + 1) (gs.set i (nth gs i + 1)) (ls.set i false) all z (upd f (idP gs i) false) ev := by
  refine ⟨h.once.free hi hl (fun _ => rfl), h.ev, h.len, by have := h.few; omega, fun j hj => ?_, by rw [List.length_set]; exact h.ln, by rw [List.length_set]; exact h.lm⟩
  have hj' : j < gs.length := by simpa using hj
  have := h.low j hj'
  rw [nth_put _ _ _ _ hj']
  split
  · rename_i e; subst e; omega
  · omega
theorem OnM.here_free (h : OnM n k gs ls all z f ev) {i : Nat} (hi : i < gs.length) (hl : bth ls i = true) : hereN (ls.set i false) n + 1 = hereN ls n := Go.Proofs.Ytfaajimmammfdaa.here_free h.lm (by have := h.ln; omega) hl
/-- An id that was given: it is there, or stale. -/
theorem OnM.there (h : OnM n k gs ls all z f ev) {id : Int} (hid : id ∈ all) (hf : f id = true) : ∃ i, i < gs.length ∧ bth ls i = true ∧ id = idP gs i := by
  have := h.once.find hid
  rw [hf] at this
  obtain ⟨_, i, a, b, c⟩ := find_ok.1 this
  exact ⟨i, a, b, c⟩
theorem OnM.stale (h : OnM n k gs ls all z f ev) {id : Int} (hid : id ∈ all) (hf : f id = false) : findE gs ls id = 8 := by
  have := h.once.find hid
  rwa [hf] at this
theorem OnM.fit (h : OnM n k gs ls all z f ev) {id : Int} (hid : id ∈ all) : Fit id := by
  obtain ⟨h0, i, hi, e, h1⟩ := h.once.ids id hid
  have h256 := h.ok.2.1
  have hg := h.ok.2.2.2 i hi
  unfold Fit
  rcases h1 with ⟨_, _, h1⟩ | ⟨_, h1⟩ <;> omega
/-- What is there was given, and not freed. -/
theorem OnM.given (h : OnM n k gs ls all z f ev) {i : Nat} (hi : i < gs.length) (hl : bth ls i = true) : f (idP gs i) = true := (h.once.here i hi hl).2
end

theorem once_new (n : Nat) (h1 : 1 ≤ n) (h2 : n ≤ 256) : OnM n 0 (List.replicate n 0) (List.replicate n false) [] 0 (fun _ => false) (fun _ => false) := by
  have hg : ∀ i, i < n → nth (List.replicate n 0) i = 0 := fun i hi => by rw [nth_get (by simpa using hi)]; simp
  have hb : ∀ i, i < n → bth (List.replicate n false) i = false := fun i hi => by rw [bth_get (by simpa using hi)]; simp
  refine ⟨⟨⟨by simpa using h1, by simpa using h2, by simp, fun i hi => ?_⟩, by simp, fun i hi hl => ?_⟩, by simp, rfl, Nat.le_refl _, fun i hi => ?_, by simp, by simp⟩
  · rw [hg i (by simpa using hi), hb i (by simpa using hi)]; simp
  · rw [hb i (by simpa using hi)] at hl; cases hl
  · rw [hg i (by simpa using hi)]; simp
theorem here_new (n : Nat) : hereN (List.replicate n false) n = 0 := by
  have : ∀ k, k ≤ n → hereN (List.replicate n false) k = 0 := by
    intro k
    induction k with
    | zero => intro _; rfl
    | succ k ih =>
      intro hk
      rw [hereN_succ, ih (by omega), if_neg]
      rw [bth_get (by simp; omega)]
      simp
  exact this n (Nat.le_refl _)

end Go.Proofs.Ytfaajimmammfdaa

/-
  Layer 19: fairness by how many steps lie between two of a worker. Over no program.
-/
import Derived.Test.YtpfnoohcilefhaaEnw
namespace Go.Proofs.Ytpfnoohcilefhaa
open Go.RowKit

/-- Behind which of the first j worker v came last. -/
def lastE (st : List I3) (v : Nat) : Nat → Nat
  | 0 => 0
  | j + 1 => if (ith st j).2.1 = (v : Int) then j + 1 else lastE st v j
theorem lastE_le (st : List I3) (v : Nat) : ∀ j, lastE st v j ≤ j
  | 0 => Nat.le_refl _
  | j + 1 => by rw [lastE]; split; exact Nat.le_refl _; exact Nat.le_succ_of_le (lastE_le st v j)
theorem lastE_none (st : List I3) (v : Nat) : ∀ j i, lastE st v j ≤ i → i < j → (ith st i).2.1 ≠ (v : Int)
  | 0, i, _, h => by omega
  | j + 1, i, h1, h2 => by
    rw [lastE] at h1
    split at h1
    · omega
    · rename_i hn
      by_cases e : i = j
      · subst e; exact hn
      · exact lastE_none st v j i h1 (by omega)
theorem lastE_far {st : List I3} {v f : Nat} : ∀ j, (∀ i, f ≤ i → i < j → (ith st i).2.1 ≠ (v : Int)) → lastE st v j ≤ f ∨ j ≤ f
  | 0, _ => .inr (Nat.zero_le _)
  | j + 1, h => by
    by_cases hj : j + 1 ≤ f
    · exact .inr hj
    · left
      rw [lastE, if_neg (h j (by omega) (by omega))]
      rcases lastE_far j (fun i h1 h2 => h i h1 (by omega)) with q | q
      · exact q
      · exact Nat.le_trans (lastE_le st v j) q

/-- Steps that are fair. -/
theorem fair_gaps {st : List I3} {W wn : Nat} (hw : ∀ j, j < st.length → 0 ≤ (ith st j).2.1 ∧ (ith st j).2.1 < (W : Int)) (hg : ∀ j, j < st.length → j < wn + lastE st (ith st j).2.1.toNat j) (he : ∀ v, v < W → st.length < wn + lastE st v st.length) : FairP st W wn :=
  ⟨hw, fun f hf v hv => by
    refine Classical.byContradiction fun hno => ?_
    have hn : ∀ i, f ≤ i → i < f + wn → (ith st i).2.1 ≠ (v : Int) := fun i h1 h2 e => hno ⟨i, h1, h2, e⟩
    have key : ∀ m, f + wn + m ≤ st.length → ∀ i, f ≤ i → i < f + wn + m → (ith st i).2.1 ≠ (v : Int) := by
      intro m
      induction m with
      | zero => intro _; exact hn
      | succ m ih =>
        intro hm i h1 h2
        by_cases e : i = f + wn + m
        · subst e
          intro hv2
          have hl := lastE_far (f + wn + m) (ih (by omega))
          have := hg (f + wn + m) (by omega)
          rw [hv2, Int.toNat_natCast] at this
          have := lastE_le st v (f + wn + m)
          omega
        · exact ih (by omega) i h1 (by omega)
    have hl := lastE_far st.length (fun i h1 h2 => key (st.length - (f + wn)) (by omega) i h1 (by omega))
    have := he v hv
    have := lastE_le st v st.length
    omega⟩
theorem fair_gap {st : List I3} {W wn : Nat} (h : FairP st W wn) {j v : Nat} (hj : j ≤ st.length) (hv : v < W) : j < wn + lastE st v j := by
  refine Classical.byContradiction fun hno => ?_
  obtain ⟨i, h1, h2, h3⟩ := h.met (lastE st v j) (by omega) v hv
  exact lastE_none st v j i h1 (by omega) h3

theorem fairR_ok {l st : List I3} {W wn : Nat} (hr : (1 ≤ (W : Int) ∧ (W : Int) ≤ 64) ∧ 1 ≤ (wn : Int)) (hs : onlyE l 0 = st) (hw : ∀ j, j < st.length → 0 ≤ (ith st j).2.1 ∧ (ith st j).2.1 < (W : Int)) (hg : ∀ j, j < st.length → j < wn + lastE st (ith st j).2.1.toNat j) (he : ∀ v, v < W → st.length < wn + lastE st v st.length) : fairR l W wn = (true, 0) := by
  refine fairR_yes hr ?_
  rw [hs, Int.toNat_natCast, Int.toNat_natCast]
  exact fair_gaps hw hg he
theorem fairR_who {l st : List I3} {W wn k : Nat} (hr : (1 ≤ (W : Int) ∧ (W : Int) ≤ 64) ∧ 1 ≤ (wn : Int)) (hs : onlyE l 0 = st) (hk : k < st.length) (hb : ¬ (0 ≤ (ith st k).2.1 ∧ (ith st k).2.1 < (W : Int))) : fairR l W wn = (false, 0) := by
  refine fairR_bad hr fun q => ?_
  rw [hs, Int.toNat_natCast, Int.toNat_natCast] at q
  exact hb (q.who k hk)
theorem fairR_gap {l st : List I3} {W wn j v : Nat} (hr : (1 ≤ (W : Int) ∧ (W : Int) ≤ 64) ∧ 1 ≤ (wn : Int)) (hs : onlyE l 0 = st) (hj : j ≤ st.length) (hv : v < W) (hb : ¬ j < wn + lastE st v j) : fairR l W wn = (false, 0) := by
  refine fairR_bad hr fun q => ?_
  rw [hs, Int.toNat_natCast, Int.toNat_natCast] at q
  exact hb (fair_gap q hj hv)

end Go.Proofs.Ytpfnoohcilefhaa

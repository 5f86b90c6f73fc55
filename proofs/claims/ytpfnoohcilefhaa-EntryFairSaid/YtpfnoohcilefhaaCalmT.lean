/-
  A region that draws its order and whose first operations, calls too, leave one value each in every world that meets S (XCalm), and whose others come behind them all, in the order of the text: stores, and what is handed back. Over no program.
-/
import Derived.Test.YtpfnoohcilefhaaCalm
import Derived.StillTail
namespace Go.Proofs.Ytpfnoohcilefhaa
open Go.RowKit

/-- The first n operations are ahead of all others, and these come in the order of the text. -/
def tailOk (md : Region.Mode) (ops : Array Oper) (n : Nat) : Bool := Region.noSelect ops && decide (n < ops.size) && Region.sinkB md ops n && Region.chainB md ops n

/-- f of the first n operations are left: whatever order is picked, in whatever worlds that meet S; behind them g operations. -/
def AnyC (P : Program) (md : Region.Mode) (ops : Array Oper) (Q : Exit → Act → World → Prop) (S : World → Prop) (n g : Nat) : Nat → Array Bool → Act → Prop
  | 0, listed, a => (∀ j ∈ Region.ready md ops listed, n ≤ j) ∧ ∀ w, S w → wpAny P md ops Q g listed a w
  | f + 1, listed, a => Region.ready md ops listed ≠ [] ∧ ∀ i ∈ Region.ready md ops listed, i < n ∧ ∀ w, S w → wpOp P ops Q i (fun a' w' => S w' ∧ AnyC P md ops Q S n g f (listed.setIfInBounds i true) a') a w
/-- .. where the region's form, and what has been picked, is known. -/
def AnyD (P : Program) (md : Region.Mode) (ops : Array Oper) (Q : Exit → Act → World → Prop) (S : World → Prop) (n g f : Nat) (listed : Array Bool) (a : Act) : Prop :=
  tailOk md ops n = true → HeadInv md ops n listed → AnyC P md ops Q S n g f listed a

section
variable {P : Program} {ops : Array Oper} {Q : Exit → Act → World → Prop} {md : Region.Mode} {S : World → Prop} {n g : Nat}

theorem any_of_calmT : ∀ (f : Nat) (listed : Array Bool) (a : Act) (w : World), S w → AnyC P md ops Q S n g f listed a → wpAny P md ops Q (f + g) listed a w
  | 0, listed, a, w, hS, h => by rw [Nat.zero_add]; exact h.2 w hS
  | f + 1, listed, a, w, hS, h => by
    rw [show f + 1 + g = (f + g) + 1 by omega]
    exact ⟨fun h0 => absurd h0 h.1, fun i hi => wpOp_mono (fun a' w' h' => any_of_calmT f _ a' w' h'.1 h'.2) ((h.2 i hi).2 w hS)⟩

theorem calmT_first {i : Nat} {oi : Oper} {v : Value} (hi : ops[i]? = some oi) (hsel : ∀ (j : Nat) (o : Oper) cs b, ops[j]? = some o → o.op ≠ .select cs b)
    (hs : Region.sinkB md ops n = true) (hc : Region.chainB md ops n = true) (hn : n < ops.size) (hin : i < n)
    (hQ : ∀ c a w, Q (.panic c) (a.put oi.dst v) w → Q (.panic c) a w) : ∀ (f : Nat) (listed : Array Bool) (a : Act), HeadInv md ops n listed →
      (∀ j oj, ops[j]? = some oj → j ≠ i → listed.getD j true = false → (∀ e ∈ oj.after, Region.binds md e = true → e.on ≠ i) → oi.apart ops oj = true) →
      i ∈ Region.ready md ops listed → Calm P ops S oi v a → AnyC P md ops Q S n g f (listed.setIfInBounds i true) (a.put oi.dst v) → AnyC P md ops Q S n g (f + 1) listed a := by
  intro f
  induction f with
  | zero =>
    intro listed a inv _ hr hy H
    have hun := (mem_ready.1 hr).1
    refine ⟨fun h => (by rw [h] at hr; cases hr), fun j hj => ?_⟩
    have hjn : j < n := by
      rcases Nat.lt_or_ge j n with h | h
      · exact h
      · exact absurd hj (tail_waits hs hc hn inv _ i rfl hin hun j h)
    refine ⟨hjn, fun w hS => ?_⟩
    by_cases hji : j = i
    · subst hji
      exact hy.wpOp hi hS fun w' h' => ⟨h', H⟩
    · have := H.1 j (ready_mono hj hji)
      omega
  | succ f ih =>
    intro listed a inv hfree hr hy H
    have hun := (mem_ready.1 hr).1
    refine ⟨fun h => (by rw [h] at hr; cases hr), fun j hj => ?_⟩
    have hjn : j < n := by
      rcases Nat.lt_or_ge j n with h | h
      · exact h
      · exact absurd hj (tail_waits hs hc hn inv _ i rfl hin hun j h)
    refine ⟨hjn, fun w hS => ?_⟩
    by_cases hji : j = i
    · subst hji
      exact hy.wpOp hi hS fun w' h' => ⟨h', H⟩
    · obtain ⟨hjun, oj, hoj, hall⟩ := mem_ready.1 hj
      have hnot : ∀ e ∈ oj.after, Region.binds md e = true → e.on ≠ i := fun e he hb heq => by
        have h1 := hall e he hb
        rw [heq, getD_both hun] at h1
        cases h1
      have h1 := calm_past hoj (hfree j oj hoj hji hjun hnot) (fun cs b => hsel i oi cs b hi) (fun cs b => hsel j oj cs b hoj) hQ hy ((H.2 j (ready_mono hj hji)).2 w hS)
      refine wpOp_mono (fun a' w' h2 => ⟨h2.2.1, ih (listed.setIfInBounds j true) a' (inv.set hj hjn) ?_ (ready_mono hr (Ne.symm hji)) h2.1 ?_⟩) h1
      · intro k ok hk hki hkun hno
        refine hfree k ok hk hki ?_ hno
        by_cases hjk : j = k
        · subst hjk; exact hjun
        · rw [getD_set_ne true hjk] at hkun; exact hkun
      · rw [Array.setIfInBounds_comm _ _ hji]
        exact h2.2.2

theorem tailOk_spec (h : tailOk md ops n = true) : Region.noSelect ops = true ∧ n < ops.size ∧ Region.sinkB md ops n = true ∧ Region.chainB md ops n = true := by
  simp only [tailOk, Bool.and_eq_true, decide_eq_true_eq] at h
  exact ⟨h.1.1.1, h.1.1.2, h.1.2, h.2⟩

/-- The next operation of the text, its place named. -/
theorem calmT_to {i t : Nat} {oi : Oper} {v : Value} {f : Nat} {listed : Array Bool} {a : Act} (hi : ops[i]? = some oi) (ht : oi.dst = some t) (hin : i < n) (hf : Region.free md ops listed i = true)
    (hr : (Region.ready md ops listed).contains i = true) (hQ : ∀ c a w, Q (.panic c) (a.put (some t) v) w → Q (.panic c) a w) (hy : Calm P ops S oi v a)
    (h : AnyD P md ops Q S n g f (listed.setIfInBounds i true) { a with tmps := a.tmps.setIfInBounds t v }) : AnyD P md ops Q S n g (f + 1) listed a := by
  intro hk inv
  obtain ⟨h1, h2, h3, h4⟩ := tailOk_spec hk
  have hr' : i ∈ Region.ready md ops listed := by simpa using hr
  exact calmT_first hi (Region.noSelect_spec h1) h3 h4 h2 hin (by rw [ht]; exact hQ) f listed a inv (Region.free_spec hi hf) hr' hy (by rw [ht]; exact h hk (inv.set hr' hin))

/-- All of the first ones are done. -/
theorem calmT_done {listed : Array Bool} {a : Act} (l : List Oper) (hg : l.length = g) (hl : ops.toList.drop n = l) (hq : Region.seqB md ops g n listed = true) (h : ∀ w, S w → wpList P ops Q l a w) : AnyD P md ops Q S n g 0 listed a := by
  intro _ _
  subst hg
  refine ⟨fun j hj => seqB_ready hq j hj, fun w hS => wpAny_of_seq l n listed a w (fun j => ?_) hq (h w hS)⟩
  rw [← hl, List.getElem?_drop, Array.getElem?_toList]

theorem calmT_region {id : Nat} {a : Act} {w : World} (n : Nat) (hm : P.follows .mixedOrders = true) (hk : tailOk .any ops n = true) (hS : S w.drew)
    (h : AnyD P .any ops Q S n (ops.size - n) n (Array.replicate ops.size false) a) : (Code.region id ops true).wp P Q a w := by
  obtain ⟨_, h2, _, _⟩ := tailOk_spec hk
  refine wp_region_any hm ?_
  have inv : HeadInv .any ops n (Array.replicate ops.size false) := ⟨by simp, fun j oj _ hl => (by rw [getD_replicate_false] at hl; cases hl), fun t _ ht => (by simp [ht])⟩
  have h3 := any_of_calmT n _ a w.drew hS (h hk inv)
  rwa [show n + (ops.size - n) = ops.size by omega] at h3
end

end Go.Proofs.Ytpfnoohcilefhaa

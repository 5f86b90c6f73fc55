/-
  As XCalmT, where some of the first operations (moves of the frame's own) may come whenever they like: those are taken ahead (any_at), and the others of the first n go on from there. Over no program.
-/
import Derived.Test.YtpfnoohcilefhaaCalmT
import Derived.Test.YtpfnoohcilefhaaIns
namespace Go.Proofs.Ytpfnoohcilefhaa
open Go.RowKit

def sinkX (md : Region.Mode) (ops : Array Oper) (n : Nat) (xs : List Nat) : Bool :=
  (List.range n).all fun i => xs.contains i || (List.range (n + 1)).any fun j => decide (i < j) && Region.waitsFor md ops j i
def tailX (md : Region.Mode) (ops : Array Oper) (n : Nat) (xs : List Nat) : Bool := Region.noSelect ops && decide (n < ops.size) && sinkX md ops n xs && Region.chainB md ops n
def headB (md : Region.Mode) (ops : Array Oper) (n : Nat) (xs : List Nat) (listed : Array Bool) : Bool :=
  (listed.size == ops.size) && ((List.range ops.size).all fun j => match ops[j]? with | some oj => !(listed.getD j false) || oj.after.all (fun e => !(Region.binds md e) || listed.getD e.on false) | none => true) &&
    ((List.range ops.size).all fun t => decide (t < n) || !(listed.getD t true)) && (xs.all fun x => listed.getD x false)
structure HeadX (md : Region.Mode) (ops : Array Oper) (n : Nat) (xs : List Nat) (listed : Array Bool) : Prop where
  inv : HeadInv md ops n listed
  xs : ∀ x ∈ xs, listed.getD x false = true
theorem headB_spec {md : Region.Mode} {ops : Array Oper} {n : Nat} {xs : List Nat} {listed : Array Bool} (h : headB md ops n xs listed = true) : HeadX md ops n xs listed := by
  unfold headB at h
  simp only [Bool.and_eq_true, beq_iff_eq] at h
  obtain ⟨⟨⟨h1, h2⟩, h3⟩, h4⟩ := h
  refine ⟨⟨h1, fun j oj hj hl e he hb => ?_, fun t ht ht' => ?_⟩, fun x hx => List.all_eq_true.1 h4 x hx⟩
  · have hjs : j < ops.size := (Array.getElem?_eq_some_iff.1 hj).1
    have := List.all_eq_true.1 h2 j (List.mem_range.2 hjs)
    rw [hj] at this
    simp only [hl, Bool.not_true, Bool.false_or] at this
    have h5 := Array.all_eq_true'.1 this e he
    simpa [hb] using h5
  · have := List.all_eq_true.1 h3 t (List.mem_range.2 ht')
    simp only [Bool.or_eq_true, decide_eq_true_eq, Bool.not_eq_true'] at this
    rcases this with h | h
    · omega
    · exact h
theorem HeadX.set {md : Region.Mode} {ops : Array Oper} {n i : Nat} {xs : List Nat} {listed : Array Bool} (h : HeadX md ops n xs listed) (hi : i ∈ Region.ready md ops listed) (hin : i < n) : HeadX md ops n xs (listed.setIfInBounds i true) :=
  ⟨h.inv.set hi hin, fun x hx => getD_set_true (h.xs x hx)⟩

theorem tail_waitsX {md : Region.Mode} {ops : Array Oper} {n : Nat} {xs : List Nat} {listed : Array Bool} (hs : sinkX md ops n xs = true) (hc : Region.chainB md ops n = true) (hn : n < ops.size) (hx : HeadX md ops n xs listed) :
    ∀ (d i : Nat), n - i = d → i < n → listed.getD i true = false → ∀ t, n ≤ t → t ∉ Region.ready md ops listed := by
  have inv := hx.inv
  intro d
  induction d using Nat.strongRecOn with
  | _ d ih =>
    intro i hd hi hun t ht hr
    obtain ⟨_, ot, hot, hall⟩ := mem_ready.1 hr
    have htlt : t < ops.size := (Array.getElem?_eq_some_iff.1 hot).1
    by_cases htn : t = n
    · subst htn
      have h1 := List.all_eq_true.1 hs i (List.mem_range.2 hi)
      rw [Bool.or_eq_true] at h1
      rcases h1 with h1 | h1
      · have h2 := hx.xs i (by simpa using h1)
        rw [getD_both hun] at h2
        cases h2
      · obtain ⟨j, hj, hj2⟩ := List.any_eq_true.1 h1
        simp only [Bool.and_eq_true, decide_eq_true_eq] at hj2
        obtain ⟨oj, hoj, e, he, hb, hon⟩ := Region.waitsFor_spec hj2.2
        have hjle : j ≤ t := by have := List.mem_range.1 hj; omega
        by_cases hjt : j = t
        · subst hjt
          have : oj = ot := Option.some.inj (hoj.symm.trans hot)
          subst this
          have h2 := hall e he hb
          rw [hon, getD_both hun] at h2
          cases h2
        · cases hl : listed.getD j false with
          | true =>
            have h2 := inv.closed j oj hoj hl e he hb
            rw [hon, getD_both hun] at h2
            cases h2
          | false =>
            have hjs : j < listed.size := by rw [inv.size]; omega
            exact ih (t - j) (by omega) j rfl (by omega) (getD_in hjs hl) t (Nat.le_refl _) hr
    · have h1 := List.all_eq_true.1 hc t (List.mem_range.2 htlt)
      simp only [Bool.or_eq_true, decide_eq_true_eq] at h1
      rcases h1 with h1 | h1
      · omega
      · obtain ⟨o', ho', e, he, hb, hon⟩ := Region.waitsFor_spec h1
        have : o' = ot := Option.some.inj (ho'.symm.trans hot)
        subst this
        have h2 := hall e he hb
        rw [hon, getD_both (inv.tail (t - 1) (by omega) (by omega))] at h2
        cases h2

def AnyX (P : Program) (md : Region.Mode) (ops : Array Oper) (Q : Exit → Act → World → Prop) (S : World → Prop) (n : Nat) (xs : List Nat) (g f : Nat) (listed : Array Bool) (a : Act) : Prop :=
  tailX md ops n xs = true → HeadX md ops n xs listed → AnyC P md ops Q S n g f listed a

section
variable {P : Program} {ops : Array Oper} {Q : Exit → Act → World → Prop} {md : Region.Mode} {S : World → Prop} {n g : Nat} {xs : List Nat}

theorem calmX_first {i : Nat} {oi : Oper} {v : Value} (hi : ops[i]? = some oi) (hsel : ∀ (j : Nat) (o : Oper) cs b, ops[j]? = some o → o.op ≠ .select cs b)
    (hs : sinkX md ops n xs = true) (hc : Region.chainB md ops n = true) (hn : n < ops.size) (hin : i < n)
    (hQ : ∀ c a w, Q (.panic c) (a.put oi.dst v) w → Q (.panic c) a w) : ∀ (f : Nat) (listed : Array Bool) (a : Act), HeadX md ops n xs listed →
      (∀ j oj, ops[j]? = some oj → j ≠ i → listed.getD j true = false → (∀ e ∈ oj.after, Region.binds md e = true → e.on ≠ i) → oi.apart ops oj = true) →
      i ∈ Region.ready md ops listed → Calm P ops S oi v a → AnyC P md ops Q S n g f (listed.setIfInBounds i true) (a.put oi.dst v) → AnyC P md ops Q S n g (f + 1) listed a := by
  intro f
  induction f with
  | zero =>
    intro listed a inv _ hr hy H
    have hun := (mem_ready.1 hr).1
    refine ⟨fun h => (by rw [h] at hr; cases hr), fun j hj => ?_⟩
    have hjn : j < n := by
      rcases Nat.lt_or_ge j n with h | h
      · exact h
      · exact absurd hj (tail_waitsX hs hc hn inv _ i rfl hin hun j h)
    refine ⟨hjn, fun w hS => ?_⟩
    by_cases hji : j = i
    · subst hji
      exact hy.wpOp hi hS fun w' h' => ⟨h', H⟩
    · have := H.1 j (ready_mono hj hji)
      omega
  | succ f ih =>
    intro listed a inv hfree hr hy H
    have hun := (mem_ready.1 hr).1
    refine ⟨fun h => (by rw [h] at hr; cases hr), fun j hj => ?_⟩
    have hjn : j < n := by
      rcases Nat.lt_or_ge j n with h | h
      · exact h
      · exact absurd hj (tail_waitsX hs hc hn inv _ i rfl hin hun j h)
    refine ⟨hjn, fun w hS => ?_⟩
    by_cases hji : j = i
    · subst hji
      exact hy.wpOp hi hS fun w' h' => ⟨h', H⟩
    · obtain ⟨hjun, oj, hoj, hall⟩ := mem_ready.1 hj
      have hnot : ∀ e ∈ oj.after, Region.binds md e = true → e.on ≠ i := fun e he hb heq => by
        have h1 := hall e he hb
        rw [heq, getD_both hun] at h1
        cases h1
      have h1 := calm_past hoj (hfree j oj hoj hji hjun hnot) (fun cs b => hsel i oi cs b hi) (fun cs b => hsel j oj cs b hoj) hQ hy ((H.2 j (ready_mono hj hji)).2 w hS)
      refine wpOp_mono (fun a' w' h2 => ⟨h2.2.1, ih (listed.setIfInBounds j true) a' (inv.set hj hjn) ?_ (ready_mono hr (Ne.symm hji)) h2.1 ?_⟩) h1
      · intro k ok hk hki hkun hno
        refine hfree k ok hk hki ?_ hno
        by_cases hjk : j = k
        · subst hjk; exact hjun
        · rw [getD_set_ne true hjk] at hkun; exact hkun
      · rw [Array.setIfInBounds_comm _ _ hji]
        exact h2.2.2

theorem tailX_spec (h : tailX md ops n xs = true) : Region.noSelect ops = true ∧ n < ops.size ∧ sinkX md ops n xs = true ∧ Region.chainB md ops n = true := by
  simp only [tailX, Bool.and_eq_true, decide_eq_true_eq] at h
  exact ⟨h.1.1.1, h.1.1.2, h.1.2, h.2⟩

/-- The next operation of the text, its place named. -/
theorem calmX_to {i t : Nat} {oi : Oper} {v : Value} {f : Nat} {listed : Array Bool} {a : Act} (hi : ops[i]? = some oi) (ht : oi.dst = some t) (hin : i < n) (hf : Region.free md ops listed i = true)
    (hr : (Region.ready md ops listed).contains i = true) (hQ : ∀ c a w, Q (.panic c) (a.put (some t) v) w → Q (.panic c) a w) (hy : Calm P ops S oi v a)
    (h : AnyX P md ops Q S n xs g f (listed.setIfInBounds i true) { a with tmps := a.tmps.setIfInBounds t v }) : AnyX P md ops Q S n xs g (f + 1) listed a := by
  intro hk inv
  obtain ⟨h1, h2, h3, h4⟩ := tailX_spec hk
  have hr' : i ∈ Region.ready md ops listed := by simpa using hr
  exact calmX_first hi (Region.noSelect_spec h1) h3 h4 h2 hin (by rw [ht]; exact hQ) f listed a inv (Region.free_spec hi hf) hr' hy (by rw [ht]; exact h hk (inv.set hr' hin))

/-- All of the first ones are done. -/
theorem calmX_done {listed : Array Bool} {a : Act} (l : List Oper) (hg : l.length = g) (hl : ops.toList.drop n = l) (hq : Region.seqB md ops g n listed = true) (h : ∀ w, S w → wpList P ops Q l a w) : AnyX P md ops Q S n xs g 0 listed a := by
  intro _ _
  subst hg
  refine ⟨fun j hj => seqB_ready hq j hj, fun w hS => wpAny_of_seq l n listed a w (fun j => ?_) hq (h w hS)⟩
  rw [← hl, List.getElem?_drop, Array.getElem?_toList]

/-- Behind those that were taken ahead. -/
theorem calmX_start {fuel : Nat} {listed : Array Bool} {a : Act} {w : World} (n : Nat) (xs : List Nat) (f : Nat) (hk : tailX md ops n xs = true) (hh : headB md ops n xs listed = true) (hf : f + (ops.size - n) = fuel) (hS : S w)
    (h : AnyX P md ops Q S n xs (ops.size - n) f listed a) : wpAny P md ops Q fuel listed a w := by
  rw [← hf]
  exact any_of_calmT f listed a w hS (h hk (headB_spec hh))
end

end Go.Proofs.Ytpfnoohcilefhaa

import Derived.Test.YtfhlligcbpnkkaaDoorMg1
import Derived.StillTail

/-
  A region that draws its order and whose first operations, calls too, leave one value each in every world that meets S (XCalm), and whose others come behind them all, in the order of the text: stores, and what is handed back. Over no program.
-/
namespace Go.Proofs.YtfhlligcbpnkkaaDoor
open Go.RowKit

/-- The first n operations are ahead of all others, and these come in the order of the text. -/
def tailOk (md : Region.Mode) (ops : Array Oper) (n : Nat) : Bool := Region.noSelect ops && decide (n < ops.size) && Region.sinkB md ops n && Region.chainB md ops n

/-- f of the first n operations are left: whatever order is picked, in whatever worlds that meet S; behind them g operations. -/
def AnyC (P : Program) (md : Region.Mode) (ops : Array Oper) (Q : Exit → Act → World → Prop) (S : World → Prop) (n g : Nat) : Nat → Array Bool → Act → Prop
  | 0, listed, a => (∀ j ∈ Region.ready md ops listed, n ≤ j) ∧ ∀ w, S w → wpAny P md ops Q g listed a w
  | f + 1, listed, a => Region.ready md ops listed ≠ [] ∧ ∀ i ∈ Region.ready md ops listed, i < n ∧ ∀ w, S w → wpOp P ops Q i (fun a' w' => S w' ∧ AnyC P md ops Q S n g f (listed.setIfInBounds i true) a') a w
/-- .. where the region's form, and what has been picked, is known. -/
def AnyD (P : Program) (md : Region.Mode) (ops : Array Oper) (Q : Exit → Act → World → Prop) (S : World → Prop) (n g f : Nat) (listed : Array Bool) (a : Act) : Prop :=
  tailOk md ops n = true → HeadInv md ops n listed → AnyC P md ops Q S n g f listed a

section
variable {P : Program} {ops : Array Oper} {Q : Exit → Act → World → Prop} {md : Region.Mode} {S : World → Prop} {n g : Nat}

theorem any_of_calmT : ∀ (f : Nat) (listed : Array Bool) (a : Act) (w : World), S w → AnyC P md ops Q S n g f listed a → wpAny P md ops Q (f + g) listed a w
  | 0, listed, a, w, hS, h => by rw [Nat.zero_add]; exact h.2 w hS
  | f + 1, listed, a, w, hS, h => by
    rw [show f + 1 + g = (f + g) + 1 by omega]
    exact ⟨fun h0 => absurd h0 h.1, fun i hi => wpOp_mono (fun a' w' h' => any_of_calmT f _ a' w' h'.1 h'.2) ((h.2 i hi).2 w hS)⟩

theorem calmT_first {i : Nat} {oi : Oper} {v : Value} (hi : ops[i]? = some oi) (hsel : ∀ (j : Nat) (o : Oper) cs b, ops[j]? = some o → o.op ≠ .select cs b)
    (hs : Region.sinkB md ops n = true) (hc : Region.chainB md ops n = true) (hn : n < ops.size) (hin : i < n)
    (hQ : ∀ c a w, Q (.panic c) (a.put oi.dst v) w → Q (.panic c) a w) : ∀ (f : Nat) (listed : Array Bool) (a : Act), HeadInv md ops n listed →
      (∀ j oj, ops[j]? = some oj → j ≠ i → listed.getD j true = false → (∀ e ∈ oj.after, Region.binds md e = true → e.on ≠ i) → oi.apart ops oj = true) →
      i ∈ Region.ready md ops listed → Calm P ops S oi v a → AnyC P md ops Q S n g f (listed.setIfInBounds i true) (a.put oi.dst v) → AnyC P md ops Q S n g (f + 1) listed a := by
  intro f
  induction f with
  | zero =>
    intro listed a inv _ hr hy H
    have hun := (mem_ready.1 hr).1
    refine ⟨fun h => (by rw [h] at hr; cases hr), fun j hj => ?_⟩
    have hjn : j < n := by
      rcases Nat.lt_or_ge j n with h | h
      · exact h
      · exact absurd hj (tail_waits hs hc hn inv _ i rfl hin hun j h)
    refine ⟨hjn, fun w hS => ?_⟩
    by_cases hji : j = i
    · subst hji
      exact hy.wpOp hi hS fun w' h' => ⟨h', H⟩
    · have := H.1 j (ready_mono hj hji)
      omega
  | succ f ih =>
    intro listed a inv hfree hr hy H
    have hun := (mem_ready.1 hr).1
    refine ⟨fun h => (by rw [h] at hr; cases hr), fun j hj => ?_⟩
    have hjn : j < n := by
      rcases Nat.lt_or_ge j n with h | h
      · exact h
      · exact absurd hj (tail_waits hs hc hn inv _ i rfl hin hun j h)
    refine ⟨hjn, fun w hS => ?_⟩
    by_cases hji : j = i
    · subst hji
      exact hy.wpOp hi hS fun w' h' => ⟨h', H⟩
    · obtain ⟨hjun, oj, hoj, hall⟩ := mem_ready.1 hj
      have hnot : ∀ e ∈ oj.after, Region.binds md e = true → e.on ≠ i := fun e he hb heq => by
        have h1 := hall e he hb
        rw [heq, getD_both hun] at h1
        cases h1
      have h1 := calm_past hoj (hfree j oj hoj hji hjun hnot) (fun cs b => hsel i oi cs b hi) (fun cs b => hsel j oj cs b hoj) hQ hy ((H.2 j (ready_mono hj hji)).2 w hS)
      refine wpOp_mono (fun a' w' h2 => ⟨h2.2.1, ih (listed.setIfInBounds j true) a' (inv.set hj hjn) ?_ (ready_mono hr (Ne.symm hji)) h2.1 ?_⟩) h1
      · intro k ok hk hki hkun hno
        refine hfree k ok hk hki ?_ hno
        by_cases hjk : j = k
        · subst hjk; exact hjun
        · rw [getD_set_ne true hjk] at hkun; exact hkun
      · rw [Array.setIfInBounds_comm _ _ hji]
        exact h2.2.2

theorem tailOk_spec (h : tailOk md ops n = true) : Region.noSelect ops = true ∧ n < ops.size ∧ Region.sinkB md ops n = true ∧ Region.chainB md ops n = true := by
  simp only [tailOk, Bool.and_eq_true, decide_eq_true_eq] at h
  exact ⟨h.1.1.1, h.1.1.2, h.1.2, h.2⟩

/-- The next operation of the text, its place named. -/
theorem calmT_to {i t : Nat} {oi : Oper} {v : Value} {f : Nat} {listed : Array Bool} {a : Act} (hi : ops[i]? = some oi) (ht : oi.dst = some t) (hin : i < n) (hf : Region.free md ops listed i = true)
    (hr : (Region.ready md ops listed).contains i = true) (hQ : ∀ c a w, Q (.panic c) (a.put (some t) v) w → Q (.panic c) a w) (hy : Calm P ops S oi v a)
    (h : AnyD P md ops Q S n g f (listed.setIfInBounds i true) { a with tmps := a.tmps.setIfInBounds t v }) : AnyD P md ops Q S n g (f + 1) listed a := by
  intro hk inv
  obtain ⟨h1, h2, h3, h4⟩ := tailOk_spec hk
  have hr' : i ∈ Region.ready md ops listed := by simpa using hr
  exact calmT_first hi (Region.noSelect_spec h1) h3 h4 h2 hin (by rw [ht]; exact hQ) f listed a inv (Region.free_spec hi hf) hr' hy (by rw [ht]; exact h hk (inv.set hr' hin))

/-- All of the first ones are done. -/
theorem calmT_done {listed : Array Bool} {a : Act} (l : List Oper) (hg : l.length = g) (hl : ops.toList.drop n = l) (hq : Region.seqB md ops g n listed = true) (h : ∀ w, S w → wpList P ops Q l a w) : AnyD P md ops Q S n g 0 listed a := by
  intro _ _
  subst hg
  refine ⟨fun j hj => seqB_ready hq j hj, fun w hS => wpAny_of_seq l n listed a w (fun j => ?_) hq (h w hS)⟩
  rw [← hl, List.getElem?_drop, Array.getElem?_toList]

theorem calmT_region {id : Nat} {a : Act} {w : World} (n : Nat) (hm : P.follows .mixedOrders = true) (hk : tailOk .any ops n = true) (hS : S w.drew)
    (h : AnyD P .any ops Q S n (ops.size - n) n (Array.replicate ops.size false) a) : (Code.region id ops true).wp P Q a w := by
  obtain ⟨_, h2, _, _⟩ := tailOk_spec hk
  refine wp_region_any hm ?_
  have inv : HeadInv .any ops n (Array.replicate ops.size false) := ⟨by simp, fun j oj _ hl => (by rw [getD_replicate_false] at hl; cases hl), fun t _ ht => (by simp [ht])⟩
  have h3 := any_of_calmT n _ a w.drew hS (h hk inv)
  rwa [show n + (ops.size - n) = ops.size by omega] at h3
end

end Go.Proofs.YtfhlligcbpnkkaaDoor

/-
  A region that draws its order: some of its operations (the inserts of a map's literal) come in whatever order, one behind the other, each in a world that the ones ahead of it have left. Over no program.
-/
namespace Go.Proofs.YtfhlligcbpnkkaaDoor
open Go.RowKit

/-- How many of K are left. -/
def leftK (K : List Nat) (L : Array Bool) : Nat := (K.filter fun i => !L.getD i true).length
/-- K may come, nothing else may as long as one of K is left (L1: what is listed behind them all). -/
def setOk (md : Region.Mode) (ops : Array Oper) (K : List Nat) (L1 : Array Bool) : Bool :=
  (K.all fun k => L1.getD k false) && ((List.range ops.size).all fun i => K.contains i || L1.getD i true || K.all (Region.waitsFor md ops i) || (List.range ops.size).any fun j => !K.contains j && !L1.getD j true && Region.waitsFor md ops i j) &&
    (K.all fun k => match ops[k]? with | some o => o.after.all fun e => !Region.binds md e || (L1.getD e.on false && !K.contains e.on) | none => false) && decide (L1.size = ops.size)

theorem getD_set_at (L : Array Bool) {i j : Nat} (b d : Bool) (hi : i < L.size) : (L.setIfInBounds i b).getD j d = if i = j then b else L.getD j d := by
  by_cases e : i = j
  · subst e; simp [Array.getD, hi]
  · rw [if_neg e]
    simp only [Array.getD_eq_getD_getElem?, Array.getElem?_setIfInBounds_ne e]

theorem leftK_set : ∀ (K : List Nat) (L : Array Bool) (i : Nat), K.Nodup → i ∈ K → L.getD i true = false → leftK K L = leftK K (L.setIfInBounds i true) + 1 := by
  intro K L i hnd hi hun
  have hlt : i < L.size := by
    rcases Nat.lt_or_ge i L.size with h | h
    · exact h
    · rw [show L.getD i true = true by simp [Array.getD, Nat.not_lt.2 h]] at hun; cases hun
  have far : ∀ (M : List Nat), i ∉ M → leftK M (L.setIfInBounds i true) = leftK M L := by
    intro M hM
    unfold leftK
    congr 1
    refine List.filter_congr fun j hj => ?_
    rw [getD_set_at L true true hlt, if_neg (fun (e : i = j) => hM (by rw [e]; exact hj))]
  induction K with
  | nil => cases hi
  | cons k K ih =>
    obtain ⟨h1, h2⟩ := List.nodup_cons.1 hnd
    rcases List.mem_cons.1 hi with rfl | hi'
    · have := far K h1
      unfold leftK at this ⊢
      rw [List.filter_cons_of_pos (by simp [hun]), List.filter_cons_of_neg (by simp [getD_set_at L true true hlt]), this]
      rfl
    · have hne : i ≠ k := fun e => h1 (e ▸ hi')
      have := ih h2 hi'
      unfold leftK at this ⊢
      rw [List.filter_cons, List.filter_cons, getD_set_at L true true hlt, if_neg hne]
      split
      · rw [List.length_cons, List.length_cons, this]
      · exact this

section
variable {P : Program} {ops : Array Oper} {Q : Exit → Act → World → Prop} {md : Region.Mode} {K : List Nat} {L1 : Array Bool}

theorem any_set (hk : setOk md ops K L1 = true) (hnd : K.Nodup) (Inv : Nat → Array Bool → World → Prop) (a : Act) (g : Nat)
    (hop : ∀ i ∈ K, ∀ (n : Nat) (L : Array Bool) (w : World) (Kc : Act → World → Prop), L.size = ops.size → L.getD i true = false → Inv (n + 1) L w → (∀ w', Inv n (L.setIfInBounds i true) w' → Kc a w') → wpOp P ops Q i Kc a w)
    (hend : ∀ w, Inv 0 L1 w → wpAny P md ops Q g L1 a w) :
    ∀ (n : Nat) (L : Array Bool) (w : World), L.size = ops.size → (∀ i, i ∉ K → L.getD i true = L1.getD i true) → leftK K L = n → Inv n L w → wpAny P md ops Q (n + g) L a w := by
  simp only [setOk, Bool.and_eq_true, decide_eq_true_eq, List.all_eq_true, List.mem_range] at hk
  obtain ⟨⟨⟨hk1, hk2⟩, hk3⟩, hk4⟩ := hk
  intro n
  induction n with
  | zero =>
    intro L w hs ho hl hI
    have hall : ∀ i ∈ K, L.getD i true = true := by
      intro i hi
      unfold leftK at hl
      have := List.filter_eq_nil_iff.1 (List.eq_nil_of_length_eq_zero hl) i hi
      simpa using this
    have e : L = L1 := by
      refine Array.ext (by omega) fun i h1 h2 => ?_
      by_cases hi : i ∈ K
      · have a1 := hall i hi
        have a2 := hk1 i hi
        simp [Array.getD, h1] at a1
        simp [Array.getD, h2] at a2
        rw [a1, a2]
      · have := ho i hi
        simpa [Array.getD, h1, h2] using this
    subst e
    rw [Nat.zero_add]
    exact hend w hI
  | succ n ih =>
    intro L w hs ho hl hI
    rw [show n + 1 + g = (n + g) + 1 by omega]
    refine ⟨fun h0 => ?_, fun i hi => ?_⟩
    · exfalso
      have hne : (K.filter fun i => !L.getD i true) ≠ [] := by
        intro e
        unfold leftK at hl
        rw [e] at hl
        cases hl
      obtain ⟨k, hkm⟩ := List.exists_mem_of_ne_nil _ hne
      obtain ⟨hkK, hku⟩ := List.mem_filter.1 hkm
      have hku : L.getD k true = false := by simpa using hku
      have h3 := hk3 k hkK
      cases hok : ops[k]? with
      | none => rw [hok] at h3; simp at h3
      | some o =>
        rw [hok] at h3
        have hr : k ∈ Region.ready md ops L := by
          refine mem_ready.2 ⟨hku, o, hok, fun e he hb => ?_⟩
          have := (Array.all_eq_true'.1 h3) e he
          simp only [hb, Bool.not_true, Bool.false_or, Bool.and_eq_true, Bool.not_eq_true', List.contains_eq_mem, decide_eq_false_iff_not] at this
          have h4 := ho e.on this.2
          have h5 := this.1
          have hlt : e.on < L1.size := by
            rcases Nat.lt_or_ge e.on L1.size with h | h
            · exact h
            · rw [show L1.getD e.on false = false by simp [Array.getD, Nat.not_lt.2 h]] at h5; cases h5
          have hlt' : e.on < L.size := by omega
          simp [Array.getD, hlt, hlt'] at h4 h5 ⊢
          rw [h4, h5]
        rw [h0] at hr
        cases hr
    · obtain ⟨hun, o, ho', hall⟩ := mem_ready.1 hi
      have hlt : i < ops.size := (Array.getElem?_eq_some_iff.1 ho').1
      have hiK : i ∈ K := by
        refine Classical.byContradiction fun hn => ?_
        have h2 := hk2 i hlt
        have hu1 : L1.getD i true = false := (ho i hn).symm.trans hun
        simp only [List.contains_eq_mem, hn, decide_false, hu1, Bool.false_or, Bool.or_eq_true, List.all_eq_true, List.any_eq_true, List.mem_range, Bool.and_eq_true, Bool.not_eq_true', decide_eq_false_iff_not] at h2
        rcases h2 with h2 | ⟨j, hj, ⟨hjK, hju⟩, hw⟩
        · have hne : (K.filter fun i => !L.getD i true) ≠ [] := by
            intro e
            unfold leftK at hl
            rw [e] at hl
            cases hl
          obtain ⟨k, hkm⟩ := List.exists_mem_of_ne_nil _ hne
          obtain ⟨hkK, hku⟩ := List.mem_filter.1 hkm
          have hku : L.getD k true = false := by simpa using hku
          obtain ⟨oj, hoj, e, he, hb, hon⟩ := Region.waitsFor_spec (h2 k hkK)
          rw [ho'] at hoj
          injection hoj with hoj
          subst hoj
          have := hall e he hb
          rw [hon, getD_both hku] at this
          cases this
        · obtain ⟨oj, hoj, e, he, hb, hon⟩ := Region.waitsFor_spec hw
          rw [ho'] at hoj
          injection hoj with hoj
          subst hoj
          have := hall e he hb
          rw [hon, getD_both ((ho j hjK).trans hju)] at this
          cases this
      refine hop i hiK n L w _ hs hun hI fun w' hI' => ih _ w' (by simpa using hs) (fun j hj => ?_) ?_ hI'
      · rw [getD_set_at L true true (by omega), if_neg (fun (e : i = j) => hj (by rw [← e]; exact hiK))]
        exact ho j hj
      · have := leftK_set K L i hnd hiK hun
        omega

/-- 'wpAny_take' with the slot that is written named: the frame stays small. -/
theorem any_at {i d : Nat} {oi : Oper} {v : Value} {fuel : Nat} {listed : Array Bool} {a : Act} {w : World} (hi : ops[i]? = some oi) (hd : oi.dst = some d)
    (hs : Region.noSelect ops = true) (hf : Region.free md ops listed i = true) (hr : (Region.ready md ops listed).contains i = true) (hQ : ∀ c a w, Q (.panic c) (a.put oi.dst v) w → Q (.panic c) a w) (hy : Yields P ops oi v a)
    (h : wpAny P md ops Q fuel (listed.setIfInBounds i true) (a.put (some d) v) w) : wpAny P md ops Q (fuel + 1) listed a w := by
  rw [← hd] at h
  exact wpAny_take hi hs hf hr hQ hy h
end

end Go.Proofs.YtfhlligcbpnkkaaDoor

/-
  As XCalmT, where some of the first operations (moves of the frame's own) may come whenever they like: those are taken ahead (any_at), and the others of the first n go on from there. Over no program.
-/
namespace Go.Proofs.YtfhlligcbpnkkaaDoor
open Go.RowKit

def sinkX (md : Region.Mode) (ops : Array Oper) (n : Nat) (xs : List Nat) : Bool :=
  (List.range n).all fun i => xs.contains i || (List.range (n + 1)).any fun j => decide (i < j) && Region.waitsFor md ops j i
def tailX (md : Region.Mode) (ops : Array Oper) (n : Nat) (xs : List Nat) : Bool := Region.noSelect ops && decide (n < ops.size) && sinkX md ops n xs && Region.chainB md ops n
def headB (md : Region.Mode) (ops : Array Oper) (n : Nat) (xs : List Nat) (listed : Array Bool) : Bool :=
  (listed.size == ops.size) && ((List.range ops.size).all fun j => match ops[j]? with | some oj => !(listed.getD j false) || oj.after.all (fun e => !(Region.binds md e) || listed.getD e.on false) | none => true) &&
    ((List.range ops.size).all fun t => decide (t < n) || !(listed.getD t true)) && (xs.all fun x => listed.getD x false)
structure HeadX (md : Region.Mode) (ops : Array Oper) (n : Nat) (xs : List Nat) (listed : Array Bool) : Prop where
  inv : HeadInv md ops n listed
  xs : ∀ x ∈ xs, listed.getD x false = true
theorem headB_spec {md : Region.Mode} {ops : Array Oper} {n : Nat} {xs : List Nat} {listed : Array Bool} (h : headB md ops n xs listed = true) : HeadX md ops n xs listed := by
  unfold headB at h
  simp only [Bool.and_eq_true, beq_iff_eq] at h
  obtain ⟨⟨⟨h1, h2⟩, h3⟩, h4⟩ := h
  refine ⟨⟨h1, fun j oj hj hl e he hb => ?_, fun t ht ht' => ?_⟩, fun x hx => List.all_eq_true.1 h4 x hx⟩
  · have hjs : j < ops.size := (Array.getElem?_eq_some_iff.1 hj).1
    have := List.all_eq_true.1 h2 j (List.mem_range.2 hjs)
    rw [hj] at this
    simp only [hl, Bool.not_true, Bool.false_or] at this
    have h5 := Array.all_eq_true'.1 this e he
    simpa [hb] using h5
  · have := List.all_eq_true.1 h3 t (List.mem_range.2 ht')
    simp only [Bool.or_eq_true, decide_eq_true_eq, Bool.not_eq_true'] at this
    rcases this with h | h
    · omega
    · exact h
theorem HeadX.set {md : Region.Mode} {ops : Array Oper} {n i : Nat} {xs : List Nat} {listed : Array Bool} (h : HeadX md ops n xs listed) (hi : i ∈ Region.ready md ops listed) (hin : i < n) : HeadX md ops n xs (listed.setIfInBounds i true) :=
  ⟨h.inv.set hi hin, fun x hx => getD_set_true (h.xs x hx)⟩

theorem tail_waitsX {md : Region.Mode} {ops : Array Oper} {n : Nat} {xs : List Nat} {listed : Array Bool} (hs : sinkX md ops n xs = true) (hc : Region.chainB md ops n = true) (hn : n < ops.size) (hx : HeadX md ops n xs listed) :
    ∀ (d i : Nat), n - i = d → i < n → listed.getD i true = false → ∀ t, n ≤ t → t ∉ Region.ready md ops listed := by
  have inv := hx.inv
  intro d
  induction d using Nat.strongRecOn with
  | _ d ih =>
    intro i hd hi hun t ht hr
    obtain ⟨_, ot, hot, hall⟩ := mem_ready.1 hr
    have htlt : t < ops.size := (Array.getElem?_eq_some_iff.1 hot).1
    by_cases htn : t = n
    · subst htn
      have h1 := List.all_eq_true.1 hs i (List.mem_range.2 hi)
      rw [Bool.or_eq_true] at h1
      rcases h1 with h1 | h1
      · have h2 := hx.xs i (by simpa using h1)
        rw [getD_both hun] at h2
        cases h2
      · obtain ⟨j, hj, hj2⟩ := List.any_eq_true.1 h1
        simp only [Bool.and_eq_true, decide_eq_true_eq] at hj2
        obtain ⟨oj, hoj, e, he, hb, hon⟩ := Region.waitsFor_spec hj2.2
        have hjle : j ≤ t := by have := List.mem_range.1 hj; omega
        by_cases hjt : j = t
        · subst hjt
          have : oj = ot := Option.some.inj (hoj.symm.trans hot)
          subst this
          have h2 := hall e he hb
          rw [hon, getD_both hun] at h2
          cases h2
        · cases hl : listed.getD j false with
          | true =>
            have h2 := inv.closed j oj hoj hl e he hb
            rw [hon, getD_both hun] at h2
            cases h2
          | false =>
            have hjs : j < listed.size := by rw [inv.size]; omega
            exact ih (t - j) (by omega) j rfl (by omega) (getD_in hjs hl) t (Nat.le_refl _) hr
    · have h1 := List.all_eq_true.1 hc t (List.mem_range.2 htlt)
      simp only [Bool.or_eq_true, decide_eq_true_eq] at h1
      rcases h1 with h1 | h1
      · omega
      · obtain ⟨o', ho', e, he, hb, hon⟩ := Region.waitsFor_spec h1
        have : o' = ot := Option.some.inj (ho'.symm.trans hot)
        subst this
        have h2 := hall e he hb
        rw [hon, getD_both (inv.tail (t - 1) (by omega) (by omega))] at h2
        cases h2

def AnyX (P : Program) (md : Region.Mode) (ops : Array Oper) (Q : Exit → Act → World → Prop) (S : World → Prop) (n : Nat) (xs : List Nat) (g f : Nat) (listed : Array Bool) (a : Act) : Prop :=
  tailX md ops n xs = true → HeadX md ops n xs listed → AnyC P md ops Q S n g f listed a

section
variable {P : Program} {ops : Array Oper} {Q : Exit → Act → World → Prop} {md : Region.Mode} {S : World → Prop} {n g : Nat} {xs : List Nat}

theorem calmX_first {i : Nat} {oi : Oper} {v : Value} (hi : ops[i]? = some oi) (hsel : ∀ (j : Nat) (o : Oper) cs b, ops[j]? = some o → o.op ≠ .select cs b)
    (hs : sinkX md ops n xs = true) (hc : Region.chainB md ops n = true) (hn : n < ops.size) (hin : i < n)
    (hQ : ∀ c a w, Q (.panic c) (a.put oi.dst v) w → Q (.panic c) a w) : ∀ (f : Nat) (listed : Array Bool) (a : Act), HeadX md ops n xs listed →
      (∀ j oj, ops[j]? = some oj → j ≠ i → listed.getD j true = false → (∀ e ∈ oj.after, Region.binds md e = true → e.on ≠ i) → oi.apart ops oj = true) →
      i ∈ Region.ready md ops listed → Calm P ops S oi v a → AnyC P md ops Q S n g f (listed.setIfInBounds i true) (a.put oi.dst v) → AnyC P md ops Q S n g (f + 1) listed a := by
  intro f
  induction f with
  | zero =>
    intro listed a inv _ hr hy H
    have hun := (mem_ready.1 hr).1
    refine ⟨fun h => (by rw [h] at hr; cases hr), fun j hj => ?_⟩
    have hjn : j < n := by
      rcases Nat.lt_or_ge j n with h | h
      · exact h
      · exact absurd hj (tail_waitsX hs hc hn inv _ i rfl hin hun j h)
    refine ⟨hjn, fun w hS => ?_⟩
    by_cases hji : j = i
    · subst hji
      exact hy.wpOp hi hS fun w' h' => ⟨h', H⟩
    · have := H.1 j (ready_mono hj hji)
      omega
  | succ f ih =>
    intro listed a inv hfree hr hy H
    have hun := (mem_ready.1 hr).1
    refine ⟨fun h => (by rw [h] at hr; cases hr), fun j hj => ?_⟩
    have hjn : j < n := by
      rcases Nat.lt_or_ge j n with h | h
      · exact h
      · exact absurd hj (tail_waitsX hs hc hn inv _ i rfl hin hun j h)
    refine ⟨hjn, fun w hS => ?_⟩
    by_cases hji : j = i
    · subst hji
      exact hy.wpOp hi hS fun w' h' => ⟨h', H⟩
    · obtain ⟨hjun, oj, hoj, hall⟩ := mem_ready.1 hj
      have hnot : ∀ e ∈ oj.after, Region.binds md e = true → e.on ≠ i := fun e he hb heq => by
        have h1 := hall e he hb
        rw [heq, getD_both hun] at h1
        cases h1
      have h1 := calm_past hoj (hfree j oj hoj hji hjun hnot) (fun cs b => hsel i oi cs b hi) (fun cs b => hsel j oj cs b hoj) hQ hy ((H.2 j (ready_mono hj hji)).2 w hS)
      refine wpOp_mono (fun a' w' h2 => ⟨h2.2.1, ih (listed.setIfInBounds j true) a' (inv.set hj hjn) ?_ (ready_mono hr (Ne.symm hji)) h2.1 ?_⟩) h1
      · intro k ok hk hki hkun hno
        refine hfree k ok hk hki ?_ hno
        by_cases hjk : j = k
        · subst hjk; exact hjun
        · rw [getD_set_ne true hjk] at hkun; exact hkun
      · rw [Array.setIfInBounds_comm _ _ hji]
        exact h2.2.2

theorem tailX_spec (h : tailX md ops n xs = true) : Region.noSelect ops = true ∧ n < ops.size ∧ sinkX md ops n xs = true ∧ Region.chainB md ops n = true := by
  simp only [tailX, Bool.and_eq_true, decide_eq_true_eq] at h
  exact ⟨h.1.1.1, h.1.1.2, h.1.2, h.2⟩

/-- The next operation of the text, its place named. -/
theorem calmX_to {i t : Nat} {oi : Oper} {v : Value} {f : Nat} {listed : Array Bool} {a : Act} (hi : ops[i]? = some oi) (ht : oi.dst = some t) (hin : i < n) (hf : Region.free md ops listed i = true)
    (hr : (Region.ready md ops listed).contains i = true) (hQ : ∀ c a w, Q (.panic c) (a.put (some t) v) w → Q (.panic c) a w) (hy : Calm P ops S oi v a)
    (h : AnyX P md ops Q S n xs g f (listed.setIfInBounds i true) { a with tmps := a.tmps.setIfInBounds t v }) : AnyX P md ops Q S n xs g (f + 1) listed a := by
  intro hk inv
  obtain ⟨h1, h2, h3, h4⟩ := tailX_spec hk
  have hr' : i ∈ Region.ready md ops listed := by simpa using hr
  exact calmX_first hi (Region.noSelect_spec h1) h3 h4 h2 hin (by rw [ht]; exact hQ) f listed a inv (Region.free_spec hi hf) hr' hy (by rw [ht]; exact h hk (inv.set hr' hin))

/-- All of the first ones are done. -/
theorem calmX_done {listed : Array Bool} {a : Act} (l : List Oper) (hg : l.length = g) (hl : ops.toList.drop n = l) (hq : Region.seqB md ops g n listed = true) (h : ∀ w, S w → wpList P ops Q l a w) : AnyX P md ops Q S n xs g 0 listed a := by
  intro _ _
  subst hg
  refine ⟨fun j hj => seqB_ready hq j hj, fun w hS => wpAny_of_seq l n listed a w (fun j => ?_) hq (h w hS)⟩
  rw [← hl, List.getElem?_drop, Array.getElem?_toList]

/-- Behind those that were taken ahead. -/
theorem calmX_start {fuel : Nat} {listed : Array Bool} {a : Act} {w : World} (n : Nat) (xs : List Nat) (f : Nat) (hk : tailX md ops n xs = true) (hh : headB md ops n xs listed = true) (hf : f + (ops.size - n) = fuel) (hS : S w)
    (h : AnyX P md ops Q S n xs (ops.size - n) f listed a) : wpAny P md ops Q fuel listed a w := by
  rw [← hf]
  exact any_of_calmT f listed a w hS (h hk (headB_spec hh))
end

end Go.Proofs.YtfhlligcbpnkkaaDoor

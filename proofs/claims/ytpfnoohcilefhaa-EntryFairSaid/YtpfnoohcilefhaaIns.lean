/-
  A region that draws its order: some of its operations (the inserts of a map's literal) come in whatever order, one behind the other, each in a world that the ones ahead of it have left. Over no program.
-/
import Derived.Test.YtpfnoohcilefhaaCalm
import Derived.StillTail
namespace Go.Proofs.Ytpfnoohcilefhaa
open Go.RowKit

/-- How many of K are left. -/
def leftK (K : List Nat) (L : Array Bool) : Nat := (K.filter fun i => !L.getD i true).length
/-- K may come, nothing else may as long as one of K is left (L1: what is listed behind them all). -/
def setOk (md : Region.Mode) (ops : Array Oper) (K : List Nat) (L1 : Array Bool) : Bool :=
  (K.all fun k => L1.getD k false) && ((List.range ops.size).all fun i => K.contains i || L1.getD i true || K.all (Region.waitsFor md ops i) || (List.range ops.size).any fun j => !K.contains j && !L1.getD j true && Region.waitsFor md ops i j) &&
    (K.all fun k => match ops[k]? with | some o => o.after.all fun e => !Region.binds md e || (L1.getD e.on false && !K.contains e.on) | none => false) && decide (L1.size = ops.size)

theorem getD_set_at (L : Array Bool) {i j : Nat} (b d : Bool) (hi : i < L.size) : (L.setIfInBounds i b).getD j d = if i = j then b else L.getD j d := by
  by_cases e : i = j
  · subst e; simp [Array.getD, hi]
  · rw [if_neg e]
    simp only [Array.getD_eq_getD_getElem?, Array.getElem?_setIfInBounds_ne e]

theorem leftK_set : ∀ (K : List Nat) (L : Array Bool) (i : Nat), K.Nodup → i ∈ K → L.getD i true = false → leftK K L = leftK K (L.setIfInBounds i true) + 1 := by
  intro K L i hnd hi hun
  have hlt : i < L.size := by
    rcases Nat.lt_or_ge i L.size with h | h
    · exact h
    · rw [show L.getD i true = true by simp [Array.getD, Nat.not_lt.2 h]] at hun; cases hun
  have far : ∀ (M : List Nat), i ∉ M → leftK M (L.setIfInBounds i true) = leftK M L := by
    intro M hM
    unfold leftK
    congr 1
    refine List.filter_congr fun j hj => ?_
    rw [getD_set_at L true true hlt, if_neg (fun (e : i = j) => hM (by rw [e]; exact hj))]
  induction K with
  | nil => cases hi
  | cons k K ih =>
    obtain ⟨h1, h2⟩ := List.nodup_cons.1 hnd
    rcases List.mem_cons.1 hi with rfl | hi'
    · have := far K h1
      unfold leftK at this ⊢
      rw [List.filter_cons_of_pos (by simp [hun]), List.filter_cons_of_neg (by simp [getD_set_at L true true hlt]), this]
      rfl
    · have hne : i ≠ k := fun e => h1 (e ▸ hi')
      have := ih h2 hi'
      unfold leftK at this ⊢
      rw [List.filter_cons, List.filter_cons, getD_set_at L true true hlt, if_neg hne]
      split
      · rw [List.length_cons, List.length_cons, this]
      · exact this

section
variable {P : Program} {ops : Array Oper} {Q : Exit → Act → World → Prop} {md : Region.Mode} {K : List Nat} {L1 : Array Bool}

theorem any_set (hk : setOk md ops K L1 = true) (hnd : K.Nodup) (Inv : Nat → Array Bool → World → Prop) (a : Act) (g : Nat)
    (hop : ∀ i ∈ K, ∀ (n : Nat) (L : Array Bool) (w : World) (Kc : Act → World → Prop), L.size = ops.size → L.getD i true = false → Inv (n + 1) L w → (∀ w', Inv n (L.setIfInBounds i true) w' → Kc a w') → wpOp P ops Q i Kc a w)
    (hend : ∀ w, Inv 0 L1 w → wpAny P md ops Q g L1 a w) :
    ∀ (n : Nat) (L : Array Bool) (w : World), L.size = ops.size → (∀ i, i ∉ K → L.getD i true = L1.getD i true) → leftK K L = n → Inv n L w → wpAny P md ops Q (n + g) L a w := by
  simp only [setOk, Bool.and_eq_true, decide_eq_true_eq, List.all_eq_true, List.mem_range] at hk
  obtain ⟨⟨⟨hk1, hk2⟩, hk3⟩, hk4⟩ := hk
  intro n
  induction n with
  | zero =>
    intro L w hs ho hl hI
    have hall : ∀ i ∈ K, L.getD i true = true := by
      intro i hi
      unfold leftK at hl
      have := List.filter_eq_nil_iff.1 (List.eq_nil_of_length_eq_zero hl) i hi
      simpa using this
    have e : L = L1 := by
      refine Array.ext (by omega) fun i h1 h2 => ?_
      by_cases hi : i ∈ K
      · have a1 := hall i hi
        have a2 := hk1 i hi
        simp [Array.getD, h1] at a1
        simp [Array.getD, h2] at a2
        rw [a1, a2]
      · have := ho i hi
        simpa [Array.getD, h1, h2] using this
    subst e
    rw [Nat.zero_add]
    exact hend w hI
  | succ n ih =>
    intro L w hs ho hl hI
    rw [show n + 1 + g = (n + g) + 1 by omega]
    refine ⟨fun h0 => ?_, fun i hi => ?_⟩
    · exfalso
      have hne : (K.filter fun i => !L.getD i true) ≠ [] := by
        intro e
        unfold leftK at hl
        rw [e] at hl
        cases hl
      obtain ⟨k, hkm⟩ := List.exists_mem_of_ne_nil _ hne
      obtain ⟨hkK, hku⟩ := List.mem_filter.1 hkm
      have hku : L.getD k true = false := by simpa using hku
      have h3 := hk3 k hkK
      cases hok : ops[k]? with
      | none => rw [hok] at h3; simp at h3
      | some o =>
        rw [hok] at h3
        have hr : k ∈ Region.ready md ops L := by
          refine mem_ready.2 ⟨hku, o, hok, fun e he hb => ?_⟩
          have := (Array.all_eq_true'.1 h3) e he
          simp only [hb, Bool.not_true, Bool.false_or, Bool.and_eq_true, Bool.not_eq_true', List.contains_eq_mem, decide_eq_false_iff_not] at this
          have h4 := ho e.on this.2
          have h5 := this.1
          have hlt : e.on < L1.size := by
            rcases Nat.lt_or_ge e.on L1.size with h | h
            · exact h
            · rw [show L1.getD e.on false = false by simp [Array.getD, Nat.not_lt.2 h]] at h5; cases h5
          have hlt' : e.on < L.size := by omega
          simp [Array.getD, hlt, hlt'] at h4 h5 ⊢
          rw [h4, h5]
        rw [h0] at hr
        cases hr
    · obtain ⟨hun, o, ho', hall⟩ := mem_ready.1 hi
      have hlt : i < ops.size := (Array.getElem?_eq_some_iff.1 ho').1
      have hiK : i ∈ K := by
        refine Classical.byContradiction fun hn => ?_
        have h2 := hk2 i hlt
        have hu1 : L1.getD i true = false := (ho i hn).symm.trans hun
        simp only [List.contains_eq_mem, hn, decide_false, hu1, Bool.false_or, Bool.or_eq_true, List.all_eq_true, List.any_eq_true, List.mem_range, Bool.and_eq_true, Bool.not_eq_true', decide_eq_false_iff_not] at h2
        rcases h2 with h2 | ⟨j, hj, ⟨hjK, hju⟩, hw⟩
        · have hne : (K.filter fun i => !L.getD i true) ≠ [] := by
            intro e
            unfold leftK at hl
            rw [e] at hl
            cases hl
          obtain ⟨k, hkm⟩ := List.exists_mem_of_ne_nil _ hne
          obtain ⟨hkK, hku⟩ := List.mem_filter.1 hkm
          have hku : L.getD k true = false := by simpa using hku
          obtain ⟨oj, hoj, e, he, hb, hon⟩ := Region.waitsFor_spec (h2 k hkK)
          rw [ho'] at hoj
          injection hoj with hoj
          subst hoj
          have := hall e he hb
          rw [hon, getD_both hku] at this
          cases this
        · obtain ⟨oj, hoj, e, he, hb, hon⟩ := Region.waitsFor_spec hw
          rw [ho'] at hoj
          injection hoj with hoj
          subst hoj
          have := hall e he hb
          rw [hon, getD_both ((ho j hjK).trans hju)] at this
          cases this
      refine hop i hiK n L w _ hs hun hI fun w' hI' => ih _ w' (by simpa using hs) (fun j hj => ?_) ?_ hI'
      · rw [getD_set_at L true true (by omega), if_neg (fun (e : i = j) => hj (by rw [← e]; exact hiK))]
        exact ho j hj
      · have := leftK_set K L i hnd hiK hun
        omega

/-- 'wpAny_take' with the slot that is written named: the frame stays small. -/
theorem any_at {i d : Nat} {oi : Oper} {v : Value} {fuel : Nat} {listed : Array Bool} {a : Act} {w : World} (hi : ops[i]? = some oi) (hd : oi.dst = some d)
    (hs : Region.noSelect ops = true) (hf : Region.free md ops listed i = true) (hr : (Region.ready md ops listed).contains i = true) (hQ : ∀ c a w, Q (.panic c) (a.put oi.dst v) w → Q (.panic c) a w) (hy : Yields P ops oi v a)
    (h : wpAny P md ops Q fuel (listed.setIfInBounds i true) (a.put (some d) v) w) : wpAny P md ops Q (fuel + 1) listed a w := by
  rw [← hd] at h
  exact wpAny_take hi hs hf hr hQ hy h
end

end Go.Proofs.Ytpfnoohcilefhaa

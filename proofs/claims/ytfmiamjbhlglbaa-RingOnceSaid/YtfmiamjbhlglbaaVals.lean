/-
  A region that draws its order: some of its operations come in whatever order, each leaving a value and a world (makes, allocs, what is built of them). Over no program.
-/
import Derived.Test.YtfmiamjbhlglbaaIns
namespace Go.Proofs.Ytfmiamjbhlglbaa
open Go.RowKit

/-- K may come, each behind those of K that it waits for; nothing else may as long as one of K is left (L1: what is listed behind them all). -/
def setOkA (md : Region.Mode) (ops : Array Oper) (K : List Nat) (L1 : Array Bool) : Bool :=
  (K.all fun k => L1.getD k false) && ((List.range ops.size).all fun i => K.contains i || L1.getD i true || K.all (Region.waitsFor md ops i) || (List.range ops.size).any fun j => !K.contains j && !L1.getD j true && Region.waitsFor md ops i j) &&
    (K.all fun k => match ops[k]? with | some o => o.after.all fun e => !Region.binds md e || (L1.getD e.on false && (!K.contains e.on || decide (e.on < k))) | none => false) && decide (L1.size = ops.size)

theorem getD_true_of {L : Array Bool} {i : Nat} (h : L.getD i false = true) : L.getD i true = true := by
  rcases Nat.lt_or_ge i L.size with hl | hl
  · simp [Array.getD, hl] at h ⊢; exact h
  · simp [Array.getD, Nat.not_lt.2 hl]
theorem least_left {K : List Nat} {L : Array Bool} (hne : (K.filter fun i => !L.getD i true) ≠ []) : ∃ k, k ∈ K ∧ L.getD k true = false ∧ ∀ j ∈ K, j < k → L.getD j true = true := by
  obtain ⟨k, hkm⟩ := List.exists_mem_of_ne_nil _ hne
  obtain ⟨hkK, hku0⟩ := List.mem_filter.1 hkm
  have hku : L.getD k true = false := by simpa using hku0
  clear hkm hne hku0
  induction k using Nat.strongRecOn with
  | ind k ih =>
    by_cases h : ∃ j, j ∈ K ∧ j < k ∧ L.getD j true = false
    · obtain ⟨j, h1, h2, h3⟩ := h
      exact ih j h2 h1 h3
    · refine ⟨k, hkK, hku, fun j h1 h2 => ?_⟩
      cases h3 : L.getD j true with
      | true => rfl
      | false => exact absurd ⟨j, h1, h2, h3⟩ h

section
variable {P : Program} {ops : Array Oper} {Q : Exit → Act → World → Prop} {md : Region.Mode} {K : List Nat} {L1 : Array Bool}

theorem any_setA (hk : setOkA md ops K L1 = true) (hnd : K.Nodup) (Inv : Nat → Array Bool → Act → World → Prop) (g : Nat)
    (hop : ∀ i ∈ K, ∀ (n : Nat) (L : Array Bool) (a : Act) (w : World) (Kc : Act → World → Prop), L.size = ops.size → L.getD i true = false → (∀ o, ops[i]? = some o → ∀ e ∈ o.after, Region.binds md e = true → L.getD e.on false = true) → Inv (n + 1) L a w → (∀ a' w', Inv n (L.setIfInBounds i true) a' w' → Kc a' w') → wpOp P ops Q i Kc a w)
    (hend : ∀ a w, Inv 0 L1 a w → wpAny P md ops Q g L1 a w) :
    ∀ (n : Nat) (L : Array Bool) (a : Act) (w : World), L.size = ops.size → (∀ i, i ∉ K → L.getD i true = L1.getD i true) → leftK K L = n → Inv n L a w → wpAny P md ops Q (n + g) L a w := by
  simp only [setOkA, Bool.and_eq_true, decide_eq_true_eq, List.all_eq_true, List.mem_range] at hk
  obtain ⟨⟨⟨hk1, hk2⟩, hk3⟩, hk4⟩ := hk
  intro n
  induction n with
  | zero =>
    intro L a w hs ho hl hI
    have hall : ∀ i ∈ K, L.getD i true = true := by
      intro i hi
      unfold leftK at hl
      have := List.filter_eq_nil_iff.1 (List.eq_nil_of_length_eq_zero hl) i hi
      simpa using this
    have e : L = L1 := by
      refine Array.ext (by omega) fun i h1 h2 => ?_
      by_cases hi : i ∈ K
      · have a1 := hall i hi
        have a2 := hk1 i hi
        simp [Array.getD, h1] at a1
        simp [Array.getD, h2] at a2
        rw [a1, a2]
      · have := ho i hi
        simpa [Array.getD, h1, h2] using this
    subst e
    rw [Nat.zero_add]
    exact hend a w hI
  | succ n ih =>
    intro L a w hs ho hl hI
    rw [show n + 1 + g = (n + g) + 1 by omega]
    refine ⟨fun h0 => ?_, fun i hi => ?_⟩
    · exfalso
      have hne : (K.filter fun i => !L.getD i true) ≠ [] := by
        intro e
        unfold leftK at hl
        rw [e] at hl
        cases hl
      obtain ⟨k, hkK, hku, hmin⟩ := least_left hne
      have h3 := hk3 k hkK
      cases hok : ops[k]? with
      | none => rw [hok] at h3; simp at h3
      | some o =>
        rw [hok] at h3
        have hr : k ∈ Region.ready md ops L := by
          refine mem_ready.2 ⟨hku, o, hok, fun e he hb => ?_⟩
          have := (Array.all_eq_true'.1 h3) e he
          simp only [hb, Bool.not_true, Bool.false_or, Bool.and_eq_true, Bool.or_eq_true, Bool.not_eq_true', List.contains_eq_mem, decide_eq_false_iff_not, decide_eq_true_eq] at this
          have h4 : L.getD e.on true = L1.getD e.on true := by
            by_cases hek : e.on ∈ K
            · have h5 := hk1 e.on hek
              have h6 := hmin e.on hek (this.2.resolve_left (fun q => q hek))
              rw [h6, getD_true_of h5]
            · exact ho e.on hek
          have h5 := this.1
          have hlt : e.on < L1.size := by
            rcases Nat.lt_or_ge e.on L1.size with h | h
            · exact h
            · rw [show L1.getD e.on false = false by simp [Array.getD, Nat.not_lt.2 h]] at h5; cases h5
          have hlt' : e.on < L.size := by omega
          simp [Array.getD, hlt, hlt'] at h4 h5 ⊢
          rw [h4, h5]
        rw [h0] at hr
        cases hr
    · obtain ⟨hun, o, ho', hall⟩ := mem_ready.1 hi
      have hlt : i < ops.size := (Array.getElem?_eq_some_iff.1 ho').1
      have hiK : i ∈ K := by
        refine Classical.byContradiction fun hn => ?_
        have h2 := hk2 i hlt
        have hu1 : L1.getD i true = false := (ho i hn).symm.trans hun
        simp only [List.contains_eq_mem, hn, decide_false, hu1, Bool.false_or, Bool.or_eq_true, List.all_eq_true, List.any_eq_true, List.mem_range, Bool.and_eq_true, Bool.not_eq_true', decide_eq_false_iff_not] at h2
        rcases h2 with h2 | ⟨j, hj, ⟨hjK, hju⟩, hw⟩
        · have hne : (K.filter fun i => !L.getD i true) ≠ [] := by
            intro e
            unfold leftK at hl
            rw [e] at hl
            cases hl
          obtain ⟨k, hkm⟩ := List.exists_mem_of_ne_nil _ hne
          obtain ⟨hkK, hku⟩ := List.mem_filter.1 hkm
          have hku : L.getD k true = false := by simpa using hku
          obtain ⟨oj, hoj, e, he, hb, hon⟩ := Region.waitsFor_spec (h2 k hkK)
          rw [ho'] at hoj
          injection hoj with hoj
          subst hoj
          have := hall e he hb
          rw [hon, getD_both hku] at this
          cases this
        · obtain ⟨oj, hoj, e, he, hb, hon⟩ := Region.waitsFor_spec hw
          rw [ho'] at hoj
          injection hoj with hoj
          subst hoj
          have := hall e he hb
          rw [hon, getD_both ((ho j hjK).trans hju)] at this
          cases this
      refine hop i hiK n L a w _ hs hun (fun o2 ho2 e he hb => by rw [ho'] at ho2; injection ho2 with ho2; subst ho2; exact hall e he hb) hI fun a' w' hI' => ih _ a' w' (by simpa using hs) (fun j hj => ?_) ?_ hI'
      · rw [getD_set_at L true true (by omega), if_neg (fun (e : i = j) => hj (by rw [← e]; exact hiK))]
        exact ho j hj
      · have := leftK_set K L i hnd hiK hun
        omega

end

end Go.Proofs.Ytfmiamjbhlglbaa

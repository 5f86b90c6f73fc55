/-
  A region that draws its order, the first m operations of which write no world and are settled (each leaves, in this world, what stands in its place in the last state, whenever those it waits for have come), and all others of which wait for these: in whatever fence, a round's too. Over no program.
-/
import Derived.OrdersIn
import Derived.OwnWalkIn
import Derived.Test.YtpfnoohcilefhaaBase
namespace Go.Proofs.Ytpfnoohcilefhaa
open Go.RowKit

/-- How many below k are not listed. -/
def cntU (listed : Array Bool) : Nat → Nat
  | 0 => 0
  | k + 1 => cntU listed k + (if listed.getD k true = false then 1 else 0)
theorem set_get {listed : Array Bool} {i : Nat} (h : i < listed.size) (d : Bool) : (listed.setIfInBounds i true).getD i d = true := by
  simp [Array.getD, h]
theorem getD_any {listed : Array Bool} {i : Nat} (h : i < listed.size) (d d' : Bool) : listed.getD i d = listed.getD i d' := by simp [Array.getD, h]
theorem cntU_far {listed : Array Bool} {i : Nat} : ∀ k, k ≤ i → cntU (listed.setIfInBounds i true) k = cntU listed k
  | 0, _ => rfl
  | k + 1, h => by rw [cntU, cntU, cntU_far k (by omega), getD_set_ne true (by omega)]
theorem cntU_set {listed : Array Bool} {i : Nat} (hs : i < listed.size) (hi : listed.getD i true = false) : ∀ k, i < k → cntU (listed.setIfInBounds i true) k + 1 = cntU listed k
  | 0, h => by omega
  | k + 1, h => by
    rw [cntU, cntU]
    by_cases hk : i = k
    · subst hk
      rw [cntU_far i (Nat.le_refl _), set_get hs, hi]
      simp
    · rw [getD_set_ne true hk]
      have := cntU_set hs hi k (by omega)
      omega
theorem cntU_least {listed : Array Bool} : ∀ k, 0 < cntU listed k → ∃ i, i < k ∧ listed.getD i true = false ∧ ∀ j, j < i → ¬ listed.getD j true = false
  | 0, h => by simp [cntU] at h
  | k + 1, h => by
    by_cases h0 : 0 < cntU listed k
    · obtain ⟨i, h1, h2, h3⟩ := cntU_least k h0
      exact ⟨i, by omega, h2, h3⟩
    · rw [cntU] at h
      split at h
      · rename_i hk
        refine ⟨k, by omega, hk, fun j hj hjf => h0 ?_⟩
        clear h hk
        induction k with
        | zero => omega
        | succ q ih =>
          rw [cntU]
          by_cases hq : j = q
          · subst hq; rw [if_pos hjf]; omega
          · have := ih (by rw [cntU] at h0; omega) (by omega); omega
      · omega
theorem cntU_none {listed : Array Bool} : ∀ k, cntU listed k = 0 → ∀ j, j < k → ¬ listed.getD j true = false
  | 0, _, j, hj => by omega
  | k + 1, h, j, hj => by
    rw [cntU] at h
    by_cases hk : j = k
    · subst hk
      intro hf
      rw [if_pos hf] at h
      omega
    · exact cntU_none k (by omega) j (by omega)

section
variable {F : Fence} {n : Nat} {P : Program} {ops : Array Oper} {Q : Exit → Act → World → Prop} {md : Region.Mode}

/-- a is b but for what the first m operations that have not come will lay. -/
def Agree (ops : Array Oper) (m : Nat) (listed : Array Bool) (b a : Act) : Prop :=
  a.defers = b.defers ∧ a.tmps.size = b.tmps.size ∧ ∀ t : Nat, a.tmps[t]? = b.tmps[t]? ∨ ∃ i o, i < m ∧ ops[i]? = some o ∧ o.dst = some t ∧ listed.getD i true = false

/-- Operation i leaves what stands in its place in b. -/
structure Settled (P : Program) (md : Region.Mode) (ops : Array Oper) (m : Nat) (w : World) (b : Act) (i : Nat) (o : Oper) (d : Nat) : Prop where
  op : ops[i]? = some o
  dst : o.dst = some d
  guard : o.guard = none
  plain : ∀ c, o.op ≠ .defer c
  sel : ∀ cs b, o.op ≠ .select cs b
  run : ∃ v, b.tmps[d]? = some v ∧ (execOp b.eval o).run P w = .ok (.value v) w
  about : o.about P w b.eval = none
  waits : ∀ t, Operand.tmp t ∈ o.op.operands → ∀ j oj, j < m → ops[j]? = some oj → oj.dst = some t → ∃ e ∈ o.after, Region.binds md e = true ∧ e.on = j
  back : ∀ e ∈ o.after, Region.binds md e = true → e.on < i
  alone : ∀ j oj, j < m → ops[j]? = some oj → oj.dst = some d → j = i

/-- Whoever has come has those that he waits for. -/
def ClosedS (md : Region.Mode) (ops : Array Oper) (listed : Array Bool) : Prop :=
  ∀ i o, ops[i]? = some o → listed.getD i true = true → ∀ e ∈ o.after, Region.binds md e = true → listed.getD e.on false = true

theorem settle {m fuel : Nat} {w : World} {b : Act} {last : Array Bool} (hm : m ≤ ops.size) (hset : ∀ i, i < m → ∃ o d, Settled P md ops m w b i o d)
    (hlate : ∀ i listed, m ≤ i → ClosedS md ops listed → (∀ k, m ≤ k → listed.getD k false = false) → i ∈ Region.ready md ops listed → ∀ j, j < m → listed.getD j false = true)
    (hl : last.size = ops.size ∧ (∀ j, j < m → last.getD j false = true) ∧ ∀ k, m ≤ k → last.getD k false = false) (hbase : wpAnyIn F n P md ops Q fuel last b w) :
    ∀ (r : Nat) (listed : Array Bool) (a : Act), listed.size = ops.size → cntU listed m = r → ClosedS md ops listed → (∀ k, m ≤ k → listed.getD k false = false) → Agree ops m listed b a → wpAnyIn F n P md ops Q (fuel + r) listed a w
  | 0, listed, a, hs, hr, _, hk, ⟨h1, h2, h3⟩ => by
    have hall := cntU_none m hr
    have e1 : listed = last := by
      refine Array.ext (by omega) fun i p q => ?_
      have u1 : listed[i] = listed.getD i false := by simp [Array.getD, p]
      have u2 : last[i] = last.getD i false := by simp [Array.getD, q]
      rw [u1, u2]
      rcases Nat.lt_or_ge i m with hi | hi
      · rw [hl.2.1 i hi, getD_any p false true]
        have := hall i hi
        revert this
        cases listed.getD i true <;> simp
      · rw [hk i hi, hl.2.2 i hi]
    have e2 : a = b := by
      obtain ⟨ta, da⟩ := a
      obtain ⟨tb, db⟩ := b
      dsimp only at h1 h2 h3
      have ht : ta = tb := by
        refine Array.ext_getElem? fun t => ?_
        rcases h3 t with h | ⟨i, o, hi, _, _, hf⟩
        · exact h
        · exact absurd hf (hall i hi)
      rw [ht, h1]
    rw [e1, e2]
    exact hbase
  | r + 1, listed, a, hs, hr, hc, hk, ⟨h1, h2, h3⟩ => by
    obtain ⟨i0, l1, l2, l3⟩ := cntU_least (listed := listed) m (by omega)
    have full : ∀ j, j < ops.size → ¬ listed.getD j true = false → listed.getD j false = true := fun j hj hn => by
      rw [getD_any (by omega) false true]
      revert hn
      cases listed.getD j true <;> simp
    refine ⟨fun hrd => ?_, fun i hi => ?_⟩
    · obtain ⟨o, d, so⟩ := hset i0 l1
      have : i0 ∈ Region.ready md ops listed := mem_ready.2 ⟨l2, o, so.op, fun e he hb => full _ (by have := so.back e he hb; omega) (l3 _ (so.back e he hb))⟩
      rw [hrd] at this
      cases this
    · rcases Nat.lt_or_ge i m with him | him
      · obtain ⟨o, d, so⟩ := hset i him
        obtain ⟨hun, o', ho', hall⟩ := mem_ready.1 hi
        obtain rfl : o' = o := by have := ho'.symm.trans so.op; injection this
        obtain ⟨v, hv, hrun⟩ := so.run
        have hev : ∀ x ∈ o'.op.operands, a.eval x = b.eval x := by
          intro x hx
          cases x with
          | tmp t =>
            rcases h3 t with h | ⟨j, oj, hj, hoj, hdj, hf⟩
            · simp only [Act.eval, Array.getD_eq_getD_getElem?, h]
            · obtain ⟨e, he, hb, rfl⟩ := so.waits t hx j oj hj hoj hdj
              have := hall e he hb
              rw [getD_any (i := e.on) (by omega) false true, hf] at this
              cases this
          | _ => rfl
        have hex := execOp_congr o' so.sel hev
        have hab := about_congr (P := P) o' w hev
        have hput : wpAnyIn F n P md ops Q (fuel + r) (listed.setIfInBounds i true) (a.put o'.dst v) w := by
          refine settle hm hset hlate hl hbase r _ _ (by simpa using hs) ?_ ?_ ?_ ?_
          · have := cntU_set (by omega) hun m him
            omega
          · intro j oj hoj hj e he hb
            by_cases hji : j = i
            · subst hji
              obtain rfl : oj = o' := by have := hoj.symm.trans ho'; injection this
              exact getD_set_true (hall e he hb)
            · rw [getD_set_ne true (Ne.symm hji)] at hj
              exact getD_set_true (hc j oj hoj hj e he hb)
          · intro k hkm
            rw [getD_set_ne false (by omega)]
            exact hk k hkm
          · rw [so.dst]
            refine ⟨h1, by simpa [Act.put] using h2, fun t => ?_⟩
            by_cases ht : t = d
            · subst ht
              left
              have hlt : t < a.tmps.size := by rw [h2]; exact (Array.getElem?_eq_some_iff.1 hv).1
              simp only [Act.put]
              rw [hv]
              simp [hlt]
            · have e : (a.put (some d) v).tmps[t]? = a.tmps[t]? := by simp only [Act.put]; exact Array.getElem?_setIfInBounds_ne (Ne.symm ht)
              rcases h3 t with h | ⟨j, oj, hj, hoj, hdj, hf⟩
              · left; rw [e, h]
              · right
                refine ⟨j, oj, hj, hoj, hdj, ?_⟩
                rw [getD_set_ne true (fun q => ?_)]
                · exact hf
                · subst q
                  obtain rfl : oj = o' := by have := hoj.symm.trans ho'; injection this
                  rw [so.dst] at hdj
                  injection hdj with hdj
                  exact ht hdj.symm
        unfold wpOpIn
        rw [ho']
        simp only [Region.wanted, so.guard, if_true, Oper.wpIn]
        rw [hab, so.about, Oper.semAt_plain F _ _ so.plain, hex, hrun]
        exact ⟨fun f hf => (by cases hf), hput⟩
      · have := hlate i listed him hc hk hi i0 l1
        rw [getD_any (by omega) false true, l2] at this
        cases this

theorem getD_tf {listed : Array Bool} {j : Nat} (h : listed.getD j false = true) : listed.getD j true = true := by
  by_cases hj : j < listed.size
  · rw [getD_any hj true false]; exact h
  · simp [Array.getD, hj] at h
theorem ClosedS.step {listed : Array Bool} (hc : ClosedS md ops listed) {i : Nat} {o : Oper} (ho : ops[i]? = some o) (hl : listed.getD i false = true) {e : Edge} (he : e ∈ o.after) (hb : Region.binds md e = true) : listed.getD e.on false = true :=
  hc i o ho (getD_tf hl) e he hb
theorem rep_getD (k i : Nat) : (Array.replicate k false).getD i false = false := by
  by_cases h : i < k <;> simp [Array.getD, h]
theorem closed_rep : ClosedS md ops (Array.replicate ops.size false) := by
  intro i o ho hl
  have hi := (Array.getElem?_eq_some_iff.1 ho).1
  simp [Array.getD, hi] at hl

/-- What may be read off the text. -/
def okSt (md : Region.Mode) (ops : Array Oper) (m i : Nat) : Bool :=
  match ops[i]? with
  | none => false
  | some o => o.guard.isNone && (match o.op with | .defer _ => false | .select _ _ => false | _ => true) &&
     (match o.dst with | none => false | some d => (List.range m).all (fun j => match ops[j]? with | none => true | some oj => j == i || !(oj.dst == some d))) &&
     o.op.operands.toList.all (fun x => match x with | .tmp t => (List.range m).all (fun j => match ops[j]? with | none => true | some oj => !(oj.dst == some t) || o.after.toList.any (fun e => Region.binds md e && e.on == j)) | _ => true) &&
     o.after.toList.all (fun e => !Region.binds md e || decide (e.on < i))

theorem Settled.of {m : Nat} {w : World} {b : Act} {i : Nat} {o : Oper} {d : Nat} (hk : okSt md ops m i = true) (ho : ops[i]? = some o) (hd : o.dst = some d)
    (hrun : ∃ v, b.tmps[d]? = some v ∧ (execOp b.eval o).run P w = .ok (.value v) w) (hab : o.about P w b.eval = none) : ∃ o d, Settled P md ops m w b i o d := by
  unfold okSt at hk
  simp only [ho, hd, Bool.and_eq_true] at hk
  obtain ⟨⟨⟨⟨h1, h2⟩, h3⟩, h4⟩, h5⟩ := hk
  refine ⟨o, d, ho, hd, by simpa using h1, ?_, ?_, hrun, hab, ?_, ?_, ?_⟩
  · intro c hc
    rw [hc] at h2
    cases h2
  · intro cs b hc
    rw [hc] at h2
    cases h2
  · intro t ht j oj hj hoj hdj
    have h6 := List.all_eq_true.1 h4 (.tmp t) (by simpa using ht)
    dsimp only at h6
    have h7 := List.all_eq_true.1 h6 j (List.mem_range.2 hj)
    simp only [hoj, hdj, beq_self_eq_true, Bool.not_true, Bool.false_or] at h7
    obtain ⟨e, he, h8⟩ := List.any_eq_true.1 h7
    simp only [Bool.and_eq_true, beq_iff_eq] at h8
    exact ⟨e, by simpa using he, h8.1, h8.2⟩
  · intro e he hb
    have h6 := List.all_eq_true.1 h5 e (by simpa using he)
    simpa [hb] using h6
  · intro j oj hj hoj hdj
    have h6 := List.all_eq_true.1 h3 j (List.mem_range.2 hj)
    simp only [hoj, hdj, beq_self_eq_true, Bool.not_true, Bool.or_false, beq_iff_eq] at h6
    exact h6

/-- The one that may come, carried out. -/
theorem anyIn_one {i : Nat} {o : Oper} {fuel : Nat} {listed : Array Bool} {a : Act} {w : World} {r : Result Next} (hr : Region.ready md ops listed = [i]) (ho : ops[i]? = some o) (hg : o.guard = none) (hd : ∀ c, o.op ≠ .defer c)
    (hrun : (execOp a.eval o).run P w = r) (hf : ∀ f, o.about P w a.eval = some f → F.fn f) (h : o.uponIn F n P a (wpAnyIn F n P md ops Q fuel (listed.setIfInBounds i true)) Q r) : wpAnyIn F n P md ops Q (fuel + 1) listed a w :=
  ⟨fun h0 => (by rw [hr] at h0; cases h0), fun j hj => by
    rw [hr] at hj
    obtain rfl := List.mem_singleton.1 hj
    unfold wpOpIn
    rw [ho]
    simp only [Region.wanted, hg, if_true, Oper.wpIn]
    rw [Oper.semAt_plain F _ _ hd, hrun]
    exact ⟨hf, h⟩⟩

end
end Go.Proofs.Ytpfnoohcilefhaa

/-
  A region that draws its order, in a round of a range over a function, that holds loads, stores and addresses alone: walked as outside of rounds. Over no program.
-/
import Derived.RangeFuncCalls
import Derived.OrdersIn
import Derived.OrdersHeld
namespace Go.Proofs.Ytpfnoohcilefhaa
open Go.RowKit

/-- It reads, writes, or reckons an address. -/
def plainOp : Op → Bool
  | .move _ | .assign _ | .load _ _ | .store _ _ _ | .fieldAddr _ _ _ | .indexAddr _ _ _ | .binOp _ _ _ _ _ | .unOp _ _ _ | .pick _ _ _ => true
  | _ => false

variable {P : Program}
theorem plain_run {o : Oper} (h : plainOp o.op = true) (ρ : Operand → Value) (w : World) :
    (∃ v w', (execOp ρ o).run P w = .ok (.value v) w') ∨ (∃ w', (execOp ρ o).run P w = .ok .skip w') ∨ (∃ x w', (execOp ρ o).run P w = .halt x w') := by
  have hb : ∀ s : Sem Value, (∃ v w', (do let x ← s; pure (Next.value x) : Sem Next).run P w = .ok (.value v) w') ∨ (∃ w', (do let x ← s; pure (Next.value x) : Sem Next).run P w = .ok .skip w') ∨ (∃ x w', (do let x ← s; pure (Next.value x) : Sem Next).run P w = .halt x w') := by
    intro s
    simp only [Sem.run_bind, Sem.run_pure]
    cases s.run P w with
    | ok v w' => exact .inl ⟨v, w', rfl⟩
    | halt x w' => exact .inr (.inr ⟨x, w', rfl⟩)
  have hu : ∀ s : Sem Unit, (∃ v w', (do s; pure Next.skip : Sem Next).run P w = .ok (.value v) w') ∨ (∃ w', (do s; pure Next.skip : Sem Next).run P w = .ok .skip w') ∨ (∃ x w', (do s; pure Next.skip : Sem Next).run P w = .halt x w') := by
    intro s
    simp only [Sem.run_bind, Sem.run_pure]
    cases s.run P w with
    | ok v w' => exact .inr (.inl ⟨w', rfl⟩)
    | halt x w' => exact .inr (.inr ⟨x, w', rfl⟩)
  have hp : ∀ (s : Sem Bool) (x y : Value), (∃ v w', (do pure (Next.value (if ← s then x else y)) : Sem Next).run P w = .ok (.value v) w') ∨ (∃ w', (do pure (Next.value (if ← s then x else y)) : Sem Next).run P w = .ok .skip w') ∨ (∃ z w', (do pure (Next.value (if ← s then x else y)) : Sem Next).run P w = .halt z w') := by
    intro s x y
    simp only [Sem.run_bind, Sem.run_pure]
    cases s.run P w with
    | ok v w' => exact .inl ⟨_, w', rfl⟩
    | halt x w' => exact .inr (.inr ⟨x, w', rfl⟩)
  unfold execOp
  cases ho : o.op <;> rw [ho] at h <;> first | (exfalso; simp [plainOp] at h; done) | skip
  all_goals first | exact hb _ | exact hu _ | exact hp _ _ _ | exact .inl ⟨_, w, rfl⟩

theorem plain_about {o : Oper} (h : plainOp o.op = true) (ρ : Operand → Value) (w : World) : o.about P w ρ = none := by
  unfold Oper.about
  cases ho : o.op <;> rw [ho] at h <;> first | rfl | (exfalso; simp [plainOp] at h; done)
theorem plain_defer {o : Oper} (h : plainOp o.op = true) (c : _) : o.op ≠ .defer c := by
  intro e
  rw [e] at h
  simp [plainOp] at h

/-- What is asked behind the region, if it ends well. -/
def endsWell (Q : Exit → Act → World → Prop) : Exit → Act → World → Prop := fun e a w => e = .normal ∧ Q .normal a w

theorem anyIn_of_any {F : Fence} {n : Nat} {md : Region.Mode} {ops : Array Oper} {Q : Exit → Act → World → Prop} (hs : ∀ (i : Nat) (o : Oper), ops[i]? = some o → plainOp o.op = true) :
    ∀ (fuel : Nat) (listed : Array Bool) (a : Act) (w : World), wpAny P md ops (endsWell Q) fuel listed a w → wpAnyIn F n P md ops Q fuel listed a w
  | 0, _, _, _, h => ⟨h.1, h.2.2⟩
  | fuel + 1, listed, a, w, h => ⟨fun h0 => (h.1 h0).2, fun i hi => by
    have h1 := h.2 i hi
    unfold wpOp at h1
    unfold wpOpIn
    cases ho : ops[i]? with
    | none =>
      rw [ho] at h1
      exact anyIn_of_any hs fuel _ _ _ h1
    | some o =>
      rw [ho] at h1
      have hp := hs i o ho
      simp only at h1 ⊢
      split
      · rename_i hw
        rw [if_pos hw] at h1
        rcases h1 with h1 | ⟨_, hl⟩
        · refine ⟨fun f hf => (by rw [plain_about hp] at hf; cases hf), ?_⟩
          rw [Oper.semAt_eq _ _ _ (plain_defer hp)]
          unfold Oper.wp at h1
          rcases plain_run (P := P) hp a.eval w with ⟨v, w', e⟩ | ⟨w', e⟩ | ⟨x, w', e⟩
          · rw [e] at h1 ⊢
            exact anyIn_of_any hs fuel _ _ _ h1
          · rw [e] at h1 ⊢
            exact anyIn_of_any hs fuel _ _ _ h1
          · rw [e] at h1
            exfalso
            cases x <;> simp [Oper.upon, endsWell] at h1
        · exfalso
          obtain ⟨_, _, h2, _⟩ := hl
          cases h2
      · rename_i hw
        rw [if_neg hw] at h1
        exact ⟨fun f hf => (by rw [plain_about hp] at hf; cases hf), anyIn_of_any hs fuel _ _ _ h1⟩⟩

theorem region_round {F : Fence} {n id : Nat} {ops : Array Oper} {Q : Exit → Act → World → Prop} {S : World → Prop} {a : Act} {w : World} (hm : P.follows .mixedOrders = true) (hs : ops.all (fun o => plainOp o.op) = true)
    (h : wpAnyH P .any ops (endsWell Q) S ops.size (Array.replicate ops.size false) a w.drew) : (Code.region id ops true).wpIn F n P Q a w := by
  refine wpIn_region_any hm ?_
  refine anyIn_of_any (fun i o ho => ?_) _ _ _ _ (wpAny_of_held _ _ _ _ h)
  have := Array.all_eq_true'.1 hs o (Array.mem_of_getElem? ho)
  exact this

/-- 'wpAnyH_take' with the slot that is written named: the frame stays small. -/
theorem take_at {md : Region.Mode} {ops : Array Oper} {Q : Exit → Act → World → Prop} {S : World → Prop} {i d : Nat} {oi : Oper} {v : Value} {fuel : Nat} {listed : Array Bool} {a : Act} {w : World} (hi : ops[i]? = some oi) (hd : oi.dst = some d)
    (hs : Region.noSelect ops = true) (hf : Region.free md ops listed i = true) (hr : (Region.ready md ops listed).contains i = true) (hQ : ∀ c a w, Q (.panic c) (a.put oi.dst v) w → Q (.panic c) a w) (hy : YieldsIf P ops S oi v a) (hS : S w)
    (h : wpAnyH P md ops Q S fuel (listed.setIfInBounds i true) (a.put (some d) v) w) : wpAnyH P md ops Q S (fuel + 1) listed a w := by
  rw [← hd] at h
  exact wpAnyH_take hi hs hf hr hQ hy hS h

end Go.Proofs.Ytpfnoohcilefhaa

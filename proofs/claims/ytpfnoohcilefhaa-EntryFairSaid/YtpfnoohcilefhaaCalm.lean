/-
  A region that draws its order, all of whose operations leave, in every world that meets S, one value each and a world that meets S again: it is walked in the order of its text, its calls too. Over no program.
-/
import Derived.Test.YtpfnoohcilefhaaBlk
import Derived.OrdersHeld
import Derived.Deep.RegionHeld3
namespace Go.Proofs.Ytpfnoohcilefhaa
open Go.RowKit

/-- The run leaves v, and a world that meets S. -/
def Leaves (P : Program) (S : World → Prop) (v : Value) : Result Next → Prop
  | .ok (.value u) w => u = v ∧ S w
  | .ok (.enter f args) w => Calls P f args w fun e w' => e = .returned v ∧ S w'
  | _ => False

/-- In state a, in every world that meets S, the operation leaves v in its place, and a world that meets S. -/
def Calm (P : Program) (ops : Array Oper) (S : World → Prop) (o : Oper) (v : Value) (a : Act) : Prop :=
  (Region.wanted o (yielded ops a.tmps) = true ∧ ∀ w, S w → Leaves P S v ((execOp a.eval o).run P w)) ∨
  (Region.wanted o (yielded ops a.tmps) = false ∧ v = undef)

/-- Whatever order is picked from here on, in whatever worlds that meet S. -/
def AnyS (P : Program) (md : Region.Mode) (ops : Array Oper) (Q : Exit → Act → World → Prop) (S : World → Prop) : Nat → Array Bool → Act → Prop
  | 0, listed, a => Region.ready md ops listed = [] ∧ ∀ w, S w → Q .normal a w
  | fuel + 1, listed, a =>
    (Region.ready md ops listed = [] → ∀ w, S w → Q .normal a w) ∧
    ∀ i ∈ Region.ready md ops listed, ∀ w, S w → wpOp P ops Q i (fun a' w' => S w' ∧ AnyS P md ops Q S fuel (listed.setIfInBounds i true) a') a w

section
variable {P : Program} {ops : Array Oper} {Q : Exit → Act → World → Prop} {md : Region.Mode} {S : World → Prop}

theorem any_of_calm : ∀ (fuel : Nat) (listed : Array Bool) (a : Act) (w : World), S w → AnyS P md ops Q S fuel listed a → wpAny P md ops Q fuel listed a w
  | 0, _, _, w, hS, h => ⟨h.1, h.2 w hS⟩
  | fuel + 1, _, _, w, hS, h => ⟨fun h0 => h.1 h0 w hS, fun i hi => wpOp_mono (fun a' w' h' => any_of_calm fuel _ a' w' h'.1 h'.2) (h.2 i hi w hS)⟩

theorem Calm.same {o : Oper} {v : Value} {a a' : Act} (hy : Calm P ops S o v a) (he : execOp a'.eval o = execOp a.eval o)
    (hw : Region.wanted o (yielded ops a'.tmps) = Region.wanted o (yielded ops a.tmps)) : Calm P ops S o v a' := by
  unfold Calm at *
  rw [he, hw]
  exact hy

theorem Calm.wpOp {i : Nat} {o : Oper} {v : Value} {a : Act} (hi : ops[i]? = some o) (hy : Calm P ops S o v a) {K : Act → World → Prop} {w : World} (hS : S w)
    (h : ∀ w', S w' → K (a.put o.dst v) w') : wpOp P ops Q i K a w := by
  unfold Go.wpOp
  simp only [hi]
  rcases hy with ⟨hw, hv⟩ | ⟨hw, rfl⟩
  · simp only [hw, if_true]
    left
    have h1 := hv w hS
    unfold Oper.wp
    generalize (execOp a.eval o).run P w = r at h1
    match r, h1 with
    | .ok (.value u) w', ⟨h2, h3⟩ => subst h2; exact h w' h3
    | .ok (.enter f args) w', h2 =>
      refine Calls.mono (show Calls P f args w' fun e w' => e = .returned v ∧ S w' from h2) ?_
      rintro e w'' ⟨rfl, h3⟩
      exact h w'' h3
  · simp only [hw, Bool.false_eq_true, if_false]
    exact h w hS

/-- Another operation, apart from the calm one, does not care whether its value stands there already. -/
theorem calm_past {j : Nat} {oi oj : Oper} {v : Value} (hj : ops[j]? = some oj) (hap : oi.apart ops oj = true) (hsi : ∀ cs b, oi.op ≠ .select cs b) (hsj : ∀ cs b, oj.op ≠ .select cs b)
    (hQ : ∀ c a w, Q (.panic c) (a.put oi.dst v) w → Q (.panic c) a w) {K : Act → World → Prop} {a : Act} {w : World} (hy : Calm P ops S oi v a) (h : wpOp P ops Q j K (a.put oi.dst v) w) :
    wpOp P ops Q j (fun a' w' => Calm P ops S oi v a' ∧ K (a'.put oi.dst v) w') a w := by
  obtain ⟨p1, p2, p3⟩ := Oper.apart_spec hap
  have e1 : execOp (a.put oi.dst v).eval oj = execOp a.eval oj := execOp_put oj hsj a oi.dst v p1
  have stays : ∀ (b : Act) (u : Value), execOp b.eval oi = execOp a.eval oi → Region.wanted oi (yielded ops b.tmps) = Region.wanted oi (yielded ops a.tmps) → Calm P ops S oi v (b.put oj.dst u) := fun b u g1 g2 =>
    hy.same ((execOp_put oi hsi b oj.dst u p3).trans g1) ((wanted_put oi b oj.dst u p3).trans g2)
  unfold Go.wpOp at h ⊢
  simp only [hj] at h ⊢
  rw [wanted_put oj a oi.dst v p1] at h
  by_cases hw : Region.wanted oj (yielded ops a.tmps) = true
  · rw [if_pos hw] at h ⊢
    rcases h with h | ⟨h1, h2⟩
    · left
      unfold Oper.wp at h ⊢
      rw [e1] at h
      match (execOp a.eval oj).run P w, h with
      | .ok (.value u) w', h => exact ⟨stays a u rfl rfl, by rw [← Act.put_comm a v u p2]; exact h⟩
      | .ok .skip w', h => exact ⟨stays a undef rfl rfl, by rw [← Act.put_comm a v undef p2]; exact h⟩
      | .ok (.defer d) w', h => exact ⟨stays _ undef rfl rfl, by rw [← Act.put_comm _ v undef p2, ← Act.put_defers]; exact h⟩
      | .ok (.enter f args) w', h =>
        refine Calls.mono h fun e w'' he => ?_
        match e, he with
        | .returned u, he => exact ⟨stays a u rfl rfl, by rw [← Act.put_comm a v u p2]; exact he⟩
        | .panicked c, he => exact hQ _ _ _ he
        | .outgrown, he => exact he
      | .ok (.row row args) w', h => exact Rows.mono h fun u w'' he => ⟨stays a u rfl rfl, by rw [← Act.put_comm a v u p2]; exact he⟩
      | .halt (.panic u) w', h => exact hQ _ _ _ h
    · right
      refine ⟨?_, h2⟩
      unfold Oper.asks at h1 ⊢
      rw [e1] at h1
      exact h1
  · rw [if_neg hw] at h ⊢
    exact ⟨stays a undef rfl rfl, by rw [← Act.put_comm a v undef p2]; exact h⟩

theorem calm_first {i : Nat} {oi : Oper} {v : Value} (hi : ops[i]? = some oi) (hsel : ∀ (j : Nat) (o : Oper) cs b, ops[j]? = some o → o.op ≠ .select cs b)
    (hQ : ∀ c a w, Q (.panic c) (a.put oi.dst v) w → Q (.panic c) a w) : ∀ (fuel : Nat) (listed : Array Bool) (a : Act),
      (∀ j oj, ops[j]? = some oj → j ≠ i → listed.getD j true = false → (∀ e ∈ oj.after, Region.binds md e = true → e.on ≠ i) → oi.apart ops oj = true) →
      i ∈ Region.ready md ops listed → Calm P ops S oi v a → AnyS P md ops Q S fuel (listed.setIfInBounds i true) (a.put oi.dst v) → AnyS P md ops Q S (fuel + 1) listed a := by
  intro fuel
  induction fuel with
  | zero =>
    intro listed a _ hr hy H
    refine ⟨fun h => (by rw [h] at hr; cases hr), fun j hj w hS => ?_⟩
    by_cases hji : j = i
    · subst hji
      exact hy.wpOp hi hS fun w' h' => ⟨h', H⟩
    · have h1 := ready_mono hj hji
      rw [H.1] at h1
      cases h1
  | succ fuel ih =>
    intro listed a hfree hr hy H
    refine ⟨fun h => (by rw [h] at hr; cases hr), fun j hj w hS => ?_⟩
    by_cases hji : j = i
    · subst hji
      exact hy.wpOp hi hS fun w' h' => ⟨h', H⟩
    · obtain ⟨hun, oj, hoj, hall⟩ := mem_ready.1 hj
      have hnot : ∀ e ∈ oj.after, Region.binds md e = true → e.on ≠ i := by
        rintro e he hb rfl
        have g1 := hall e he hb
        have g0 := (mem_ready.1 hr).1
        rcases Nat.lt_or_ge e.on listed.size with h' | h'
        · simp [h'] at g0 g1
          simp [g0] at g1
        · simp [Array.getElem?_eq_none h'] at g1
      have h1 := calm_past hoj (hfree j oj hoj hji hun hnot) (fun cs b => hsel i oi cs b hi) (fun cs b => hsel j oj cs b hoj) hQ hy (H.2 j (ready_mono hj hji) w hS)
      refine wpOp_mono (fun a' w' h2 => ⟨h2.2.1, ih (listed.setIfInBounds j true) a' ?_ (ready_mono hr (Ne.symm hji)) h2.1 ?_⟩) h1
      · intro k ok hk hki hkun hno
        refine hfree k ok hk hki ?_ hno
        by_cases hjk : j = k
        · subst hjk; exact hun
        · rw [getD_set_ne true hjk] at hkun; exact hkun
      · rw [Array.setIfInBounds_comm _ _ hji]
        exact h2.2.2

/-- The next operation of the text, taken. -/
theorem calm_take {i : Nat} {oi : Oper} {v : Value} {fuel : Nat} {listed : Array Bool} {a : Act} (hi : ops[i]? = some oi) (hs : Region.noSelect ops = true) (hf : Region.free md ops listed i = true)
    (hr : (Region.ready md ops listed).contains i = true) (hQ : ∀ c a w, Q (.panic c) (a.put oi.dst v) w → Q (.panic c) a w) (hy : Calm P ops S oi v a)
    (h : AnyS P md ops Q S fuel (listed.setIfInBounds i true) (a.put oi.dst v)) : AnyS P md ops Q S (fuel + 1) listed a :=
  calm_first hi (Region.noSelect_spec hs) hQ fuel listed a (Region.free_spec hi hf) (by simpa using hr) hy h

/-- The same, where the operation's place is named. -/
theorem calm_to {i t : Nat} {oi : Oper} {v : Value} {fuel : Nat} {listed : Array Bool} {a : Act} (hi : ops[i]? = some oi) (ht : oi.dst = some t) (hs : Region.noSelect ops = true) (hf : Region.free md ops listed i = true)
    (hr : (Region.ready md ops listed).contains i = true) (hQ : ∀ c a w, Q (.panic c) (a.put (some t) v) w → Q (.panic c) a w) (hy : Calm P ops S oi v a)
    (h : AnyS P md ops Q S fuel (listed.setIfInBounds i true) { a with tmps := a.tmps.setIfInBounds t v }) : AnyS P md ops Q S (fuel + 1) listed a :=
  calm_take hi hs hf hr (by rw [ht]; exact hQ) hy (by rw [ht]; exact h)

theorem calm_done {listed : Array Bool} {a : Act} (hr : Region.ready md ops listed = []) (h : ∀ w, S w → Q .normal a w) : ∀ fuel, AnyS P md ops Q S fuel listed a
  | 0 => ⟨hr, h⟩
  | _ + 1 => ⟨fun _ => h, by rw [hr]; simp⟩

theorem calm_region {id : Nat} {a : Act} {w : World} (hm : P.follows .mixedOrders = true) (hS : S w.drew)
    (h : AnyS P .any ops Q S ops.size (Array.replicate ops.size false) a) : (Code.region id ops true).wp P Q a w :=
  wp_region_any hm (any_of_calm _ _ _ _ hS h)

/-- What yields its value and leaves the world alone is calm. -/
theorem calm_of {o : Oper} {v : Value} {a : Act} (hw : Region.wanted o (yielded ops a.tmps) = true) (h : ∀ w, S w → (execOp a.eval o).run P w = .ok (.value v) w) : Calm P ops S o v a :=
  .inl ⟨hw, fun w hS => by rw [h w hS]; exact ⟨rfl, hS⟩⟩

theorem calm_skip {o : Oper} {a : Act} (hw : Region.wanted o (yielded ops a.tmps) = false) : Calm P ops S o undef a := .inr ⟨hw, rfl⟩

theorem calm_move {o : Oper} {v : Value} {a : Act} (hw : Region.wanted o (yielded ops a.tmps) = true) (x : Operand) (ho : o.op = .move x ∨ o.op = .assign x) (hx : a.eval x = v) : Calm P ops S o v a :=
  calm_of hw fun w _ => by
    unfold execOp
    rcases ho with ho | ho <;> simp only [ho, hx, Sem.run_pure]

/-- A call of a function of one argument, by its contract. -/
theorem calm_call1 {o : Oper} {v : Value} {a : Act} (hw : Region.wanted o (yielded ops a.tmps) = true) (f : FuncId) (x : Operand) (ts : Array TypeId) (ho : o.op = .call { callee := .value (.func f), args := #[x], argTypes := ts })
    (he : ∀ args w, (callFunc f args).run P w = .ok (.enter f args) w) (u : Value) (hx : a.eval x = u) (hc : ∀ w, S w → Calls P f #[u] w fun e w' => e = .returned v ∧ S w') : Calm P ops S o v a :=
  .inl ⟨hw, fun w hS => by
    have : (execOp a.eval o).run P w = .ok (.enter f #[u]) w := by
      unfold execOp
      simp only [ho, resolve, List.map_toArray, List.map_cons, List.map_nil, hx]
      simp [Act.eval, Deferred.ofValue, invoke, he]
    rw [this]
    exact hc w hS⟩

/-- A call of a function of two arguments, by its contract. -/
theorem calm_call2 {o : Oper} {v : Value} {a : Act} (hw : Region.wanted o (yielded ops a.tmps) = true) (f : FuncId) (x y : Operand) (ts : Array TypeId) (ho : o.op = .call { callee := .value (.func f), args := #[x, y], argTypes := ts })
    (he : ∀ args w, (callFunc f args).run P w = .ok (.enter f args) w) (u u' : Value) (hx : a.eval x = u) (hy : a.eval y = u') (hc : ∀ w, S w → Calls P f #[u, u'] w fun e w' => e = .returned v ∧ S w') : Calm P ops S o v a :=
  .inl ⟨hw, fun w hS => by
    have : (execOp a.eval o).run P w = .ok (.enter f #[u, u']) w := by
      unfold execOp
      simp only [ho, resolve, List.map_toArray, List.map_cons, List.map_nil, hx, hy]
      simp [Act.eval, Deferred.ofValue, invoke, he]
    rw [this]
    exact hc w hS⟩

theorem calm_pick {o : Oper} {v : Value} {a : Act} (hw : Region.wanted o (yielded ops a.tmps) = true) (c x y : Operand) (ho : o.op = .pick c x y) (b : Bool) (hc : a.eval c = .bool b) (hv : (if b then a.eval x else a.eval y) = v) : Calm P ops S o v a :=
  calm_of hw fun w _ => by
    unfold execOp
    simp [ho, hc, asBool, hv]

end

end Go.Proofs.Ytpfnoohcilefhaa

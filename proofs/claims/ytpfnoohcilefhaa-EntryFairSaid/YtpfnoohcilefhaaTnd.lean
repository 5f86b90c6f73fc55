/-
  Layer 14, the program: a tenant is changed by a closure; Admit, Leave and Count.
-/
import Derived.Test.YtpfnoohcilefhaaTnc
import Derived.BigRegion
namespace Go.Proofs.Ytpfnoohcilefhaa
open Go.RowKit

section
variable {P : Program} {ops : Array Oper} {S : World → Prop}
/-- A call of a function of three arguments, by its contract. -/
theorem calm_call3 {o : Oper} {v : Value} {a : Act} (hw : Region.wanted o (yielded ops a.tmps) = true) (f : FuncId) (x y z : Operand) (ts : Array TypeId) (ho : o.op = .call { callee := .value (.func f), args := #[x, y, z], argTypes := ts })
    (he : ∀ args w, (callFunc f args).run P w = .ok (.enter f args) w) (u u' u'' : Value) (hx : a.eval x = u) (hy : a.eval y = u') (hz : a.eval z = u'') (hc : ∀ w, S w → Calls P f #[u, u', u''] w fun e w' => e = .returned v ∧ S w') : Calm P ops S o v a :=
  .inl ⟨hw, fun w hS => by
    have : (execOp a.eval o).run P w = .ok (.enter f #[u, u', u'']) w := by
      unfold execOp
      simp only [ho, resolve, List.map_toArray, List.map_cons, List.map_nil, hx, hy, hz]
      simp [Act.eval, Deferred.ofValue, invoke, he]
    rw [this]
    exact hc w hS⟩
end

/-- What a closure answers that changes tenant k of a row: its error; where it is none, the row with that tenant changed. -/
def SetTn (base g c k : Nat) (l : List Tn) (r : Int × Tn) (w : World) (e : Ending) (w' : World) : Prop :=
  e = .returned (.int .i64 r.1) ∧ (r.1 = 0 → RowTn 76 w' base g c (l.set k r.2)) ∧ Below base w w'

end Go.Proofs.Ytpfnoohcilefhaa

/-
  From a walk to a law's row that lists package-level variables: as Row, with what the row's condition gives beside.
-/
import Derived.Test.YtlbmlhcphoiaeaaDoorRow
import Derived.LaidLaws
import Derived.MakeChecks
import Derived.Lay
import Derived.Stop.Joined
namespace Go.Proofs.YtlbmlhcphoiaeaaDoor
open Go.ChangeShapes Go.WideShapes Go.ChangeAt Go.RowKit

section
variable {H : Type} {enc : TypeId × Value → H}

/-- What the walk of a law is to give, at any arguments that can be read, where L holds of the world. -/
def GivesL (L : World → Prop) (enc : TypeId × Value → H) (f : FuncId) (ts : List TypeId) (spec : ChangeSpec) : Prop :=
  ∀ (W : World) (base : Nat) (args : Array Value) (ds : List (DataW H)) (p : List MemPlace),
    (∀ (j : Nat) t v, ts[j]? = some t → args[j]? = some v → Value.okWide Tryd.prog W .any base t v) →
    DataW.TrodAll enc Tryd.prog W 0 (fun _ => true) true ts args.toList ds p → (DataW.weightsEach Tryd.prog ts ds).all (· ≤ reachBytes) = true → (∀ x ∈ p, x.block < W.heap.size) → L W →
    spec.fn H ds = { results := [.lit (.bool true)], args := ds } ∧ Calls Tryd.prog f args W (TrueAns W)

set_option maxRecDepth 100000 in
theorem lawL_lifted (os : Os) (started : os.Started) (f : FuncId) (fn : Func) (spec : ChangeSpec) (laid : List (String × DataW Unit)) (L : World → Prop) (hL : ∀ W, laidMetH Tryd.prog laid W → L W)
    (hvars : spec.vars = []) (hplain : spec.plain.varTypes Tryd.prog = []) (noInit : Tryd.prog.inits.idxOf? f = none) (hfn : Tryd.prog.funcs[f]? = some fn)
    (hts : (fn.params.toList.all fun t => Tryd.prog.readableRec t && decide (t < Tryd.prog.types.size)) = true) (hrt : fn.resultTypes = #[4])
    (witness : ∃ (w : World) (tape : Tape) (i : Input), w.os = os ∧ (w.forCall tape i).Shaped Tryd.prog ∧ i.vars = [] ∧ Input.okWide Tryd.prog (w.forCall tape i) .any w.heap.size f i ∧
      ((spec.pre enc Tryd.prog fn [] false (w.forCall tape i).memory i.args ∧ laidMetH Tryd.prog laid (w.forCall tape i).memory) ∧ sizedMet enc Tryd.prog fn (OpenSpec.ofChange spec) false (w.forCall tape i).memory i.args) ∧ ({} : Assume).holds Tryd.prog (lone (Frame.enter Tryd.prog f i.args .normal) [] (w.forCall tape i)))
    (walk : GivesL L enc f fn.params.toList spec) :
    ReturnsInHanded {} Tryd.checked os f .any (fun w args => (spec.pre enc Tryd.prog fn [] false w args ∧ laidMetH Tryd.prog laid w) ∧ sizedMet enc Tryd.prog fn (OpenSpec.ofChange spec) false w args) (spec.post enc Tryd.prog fn false true false false) := by
  refine returnsInHanded_of_change_and (C := Tryd.checked) (X := fun w _ => laidMetH Tryd.prog laid w) (fun _ _ _ hh (h : laidMetH Tryd.prog laid _) => laidMetH.of_heap hh h) Tryd.own started noInit hfn witness ?_
  intro W base args ds gs before hval0 hW _ hsz0 hlaid _
  have hW' := hW
  obtain ⟨p, q, hA0, hV, rfl, _, _⟩ := hW
  rw [hvars] at hV
  have hA : DataW.TrodAll enc Tryd.prog W 0 (fun _ => true) true fn.params.toList args.toList ds p := hA0
  obtain ⟨rfl, rfl⟩ := trodVars_none hV
  have hsz : (DataW.weightsEach Tryd.prog (fn.params.toList ++ spec.plain.varTypes Tryd.prog) (ds ++ [])).all (· ≤ reachBytes) = true := hsz0
  rw [hplain, List.append_nil, List.append_nil] at hsz
  have hlt : ∀ x ∈ p, x.block < W.heap.size := fun x hx => hW'.lt x (by simp [hx])
  obtain ⟨hspec, hcalls⟩ := walk W base args ds p (fun j t v h1 h2 => hval0 j t v (by simpa using h1) h2) hA hsz hlt (hL W hlaid)
  refine hcalls.mono fun e W' ⟨he, hb⟩ => ?_
  subst he
  have hts' : ∀ t ∈ fn.params.toList, Tryd.prog.readableRec t = true ∧ t < Tryd.prog.types.size := fun t ht => by
    have := List.all_eq_true.1 hts t ht
    simpa using this
  refine ⟨_, rfl, ds, [], p ++ [], [], p, [], hW', ?_, ?_, ?_, hb.frame _, fun h => by cases h⟩
  · rw [List.append_nil, hspec, hrt]
    exact trodAll_mk1 (shut_bool Tryd.underlying4 true)
  · rw [List.append_nil, hspec]
    exact trodAll_below hb hts' hA hlt
  · rw [List.append_nil, hspec, hvars]
    rfl

end

end Go.Proofs.YtlbmlhcphoiaeaaDoor

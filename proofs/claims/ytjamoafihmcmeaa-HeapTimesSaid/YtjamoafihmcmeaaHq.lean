/-
  A map from timers to numbers of the call's own, read as a function: made, kept, looked up, counted on ('m[t]++').
-/
import Derived.Test.YtjamoafihmcmeaaHt
import Derived.Maps.OwnSet
import Derived.Maps.Views
import Derived.DeepKeys4
import Derived.WideKeyEntry
namespace Go.Proofs.Ytjamoafihmcmeaa
open Go.RowKit Go.Maps
open Go.WideMaps (KeyLaw)
open Go.ChangeMaps (setBlock)

theorem keyOf_two {P : Program} {k e : TypeId} {f0 f1 : Field} (hu : P.underlying k = some (.struct #[f0, f1])) (hkt : P.keyType k = true) (hsz : ∃ m, P.types.size = m + 1) (t0 : f0.type = e) (t1 : f1.type = e) (o0 : f0.offset = 0) (o1 : f1.offset = 1)
    (n0 : (f0.name != "_") = true) (n1 : (f1.name != "_") = true) (ck : P.cellsOf k = 2) (ce : P.cellsOf e = 1) (he : P.underlying e = some (.int .i64)) {a b : Int} (wa : (Lit.int .i64 a).wf = true) (wb : (Lit.int .i64 b).wf = true) :
    keyOf P k (.agg #[.int .i64 a, .int .i64 b]) = some (.string (keyBytes [.int .i64 a, .int .i64 b])) := by
  obtain ⟨m, hm⟩ := hsz
  unfold keyOf
  simp only [hu]
  rw [if_pos (by simp [hkt, Value.formed, hu, ck]), hm]
  unfold Program.keyLits
  simp only [hu, Value.cells]
  rw [if_pos (by simp [ck, n0, n1])]
  simp only [List.mapM_cons, List.mapM_nil, t0, t1, o0, o1, ce]
  simp [Program.keyLits, he, wa, wb]

theorem Try.laidOut8 : laidOutB Try.prog = true := by kernel_rfl
theorem Try.rowT : (24 : TypeId) < Try.prog.types.size := of_decide_eq_true (by kernel_rfl)
theorem Try.deepT : Try.prog.keyTypeAt 2 24 = true := by kernel_rfl
theorem Try.lawT : KeyLaw Try.prog 24 := deep_law_laid Try.laidOut8 (m := 2) (by decide) Try.rowT Try.deepT (by rw [Try.underlying24])
theorem Try.keyedT : Keyed Try.prog 24 := Keyed.of_law Try.lawT
theorem Try.zeroInt8 (w : World) : (zeroValue 3).run Try.prog w = .ok (.int .i64 0) w := by kernel_rfl
abbrev tv (x : Tm) : Value := .agg #[.int .i64 x.1, .int .i64 x.2]
theorem tv_inj {x y : Tm} (h : tv x = tv y) : x = y := by
  obtain ⟨x1, x2⟩ := x
  obtain ⟨y1, y2⟩ := y
  simp only [tv, Value.agg.injEq] at h
  simp at h
  rw [h.1, h.2]
theorem keyT {x : Tm} (h : FitI x) : ∃ l, keyOf Try.prog 24 (tv x) = some l := by
  exact ⟨_, keyOf_two Try.underlying24 (by kernel_rfl) ⟨Try.prog.types.size - 1, by kernel_rfl⟩ rfl rfl rfl rfl (by decide) (by decide) (by kernel_rfl) (by kernel_rfl) Try.underlying2 (wf_of_fit h.1) (wf_of_fit h.2)⟩

theorem set_set_block (w : World) (b : Nat) (o o' : Obj) : setBlock (setBlock w b o) b o' = setBlock w b o' := by
  unfold setBlock
  congr 1
  apply Array.ext_getElem?
  intro i
  simp only [Array.getElem?_setIfInBounds]
  by_cases h : b = i
  · simp [h]
  · simp [h]
theorem set_block_same {w : World} {b : Nat} {o : Obj} (h : w.heap[b]? = some o) : setBlock w b o = w := by
  unfold setBlock
  have : w.heap.setIfInBounds b o = w.heap := by
    apply Array.ext_getElem?
    intro i
    simp only [Array.getElem?_setIfInBounds]
    by_cases e : b = i
    · subst e
      obtain ⟨hlt, he⟩ := Array.getElem?_eq_some_iff.1 h
      simp [hlt, he]
    · simp [e]
  rw [this]
theorem set_block_grown (w : World) (b : Nat) (o : Obj) : w.grownBy (setBlock w b o) (some b) :=
  ⟨rfl, rfl, rfl, by simp [setBlock], fun k _ hne => by
    unfold setBlock
    simp only [Array.getElem?_setIfInBounds]
    rw [if_neg (fun e => hne (by rw [e]))]⟩

def updT (f : Tm → Int) (x : Tm) (v : Int) (y : Tm) : Int := if y = x then v else f y
/-- In block b lies a map that reads as f (n entries at the most). -/
def CntM (w : World) (b n : Nat) (f : Tm → Int) : Prop :=
  ∃ D : DataW Unit, w.ownsMap Try.prog 24 (plainElem Try.prog 3) b n D ∧ ∀ x l, FitI x → keyOf Try.prog 24 (tv x) = some l → D.atKey l (.lit (.int .i64 0)) = .lit (.int .i64 (f x))
section
variable {w w' : World} {b n : Nat} {f : Tm → Int}
theorem CntM.made (w : World) : CntM (w.alloc (.map #[] 0)) w.heap.size 0 fun _ => 0 :=
  ⟨.map [], World.ownsMap_made w _ _ _, fun _ _ _ _ => rfl⟩
theorem CntM.grown (h : CntM w b n f) {row : Option Nat} (hg : w.grownBy w' row) (hne : some b ≠ row) : CntM w' b n f := by
  obtain ⟨D, hD, hf⟩ := h
  exact ⟨D, hD.kept hg hne, hf⟩
theorem CntM.below (h : CntM w b n f) (hb : Below w.heap.size w w') : CntM w' b n f :=
  h.grown (row := none) ⟨hb.os, hb.tape, hb.output, hb.size, fun k hk _ => hb.block k hk⟩ (by simp)
theorem CntM.lt (h : CntM w b n f) : b < w.heap.size := by obtain ⟨D, hD, _⟩ := h; exact hD.lt
theorem CntM.same {g : Tm → Int} (h : CntM w b n f) (e : ∀ y, f y = g y) : CntM w b n g := by
  obtain ⟨D, hD, hf⟩ := h
  exact ⟨D, hD, fun x l hx hl => by rw [← e x]; exact hf x l hx hl⟩
theorem CntM.get (h : CntM w b n f) {x : Tm} (hx : FitI x) : (Instr.lookup 75 (.map (some b)) (tv x) false).run Try.prog w = .ok (.int .i64 (f x)) w := by
  obtain ⟨D, hD, hf⟩ := h
  obtain ⟨l, hl⟩ := keyT hx
  obtain ⟨c, hrun, hc, _⟩ := hD.lookup_int Try.keyedT Try.underlying75 Try.underlying3 (Try.zeroInt8 w) hl
  rw [hf x l hx hl] at hc
  have : f x = c := by simpa using hc
  rw [hrun, this]
theorem CntM.upd (h : CntM w b n f) {x : Tm} (hx : FitI x) (v : Int) (hv : Fit v) (hn : n < 1000) : ∃ w', (Instr.mapUpdate 75 (.map (some b)) (tv x) (.int .i64 v)).run Try.prog w = .ok () w' ∧ CntM w' b (n + 1) (updT f x v) ∧ w.grownBy w' (some b) := by
  obtain ⟨D, hD, hf⟩ := h
  obtain ⟨l, hl⟩ := keyT hx
  obtain ⟨w', hrun, h1, h2⟩ := hD.update Try.keyedT Try.underlying75 (by unfold maxLen; omega) hl (plainElem_int Try.underlying3 (wf_of_fit hv))
  refine ⟨w', hrun, ⟨_, h1, fun y m hy hm => ?_⟩, h2⟩
  by_cases e : y = x
  · subst e
    have hm := Option.some.inj (hl.symm.trans hm)
    subst hm
    rw [atKey_put_same hD.isMap (Try.keyedT.key hl)]
    simp [updT]
  · rw [atKey_put_other (by intro e'; subst e'; exact e (tv_inj (Try.keyedT.inj hm hl))), hf y m hy hm]
    simp [updT, e]

/-- 'm[t] = ..' in two steps: the entry, that reads as it did, and a store into it. -/
theorem CntM.bump (h : CntM w b n f) {x : Tm} (hx : FitI x) (hn : n < 999) : ∃ v0 st w1, (Instr.mapEntry 75 (.map (some b)) (tv x)).run Try.prog w = .ok (.tuple #[v0, st]) w1 ∧ CntM w1 b (n + 1) f ∧ w.grownBy w1 (some b) ∧
    ∀ v, Fit v → ∃ w', (Instr.entryStore 75 (.map (some b)) st (.int .i64 v)).run Try.prog w1 = .ok () w' ∧ CntM w' b (n + 1) (updT f x v) ∧ w1.grownBy w' (some b) := by
  have hget := h.get hx
  have hupd := fun v hv => h.upd hx v hv (by omega : n < 1000)
  obtain ⟨l, hl⟩ := keyT hx
  obtain ⟨D, ⟨es, clock, hb, F, hs, hD⟩, hf⟩ := id h
  have ht := Try.underlying75
  obtain ⟨v0, st, es1, clock1, hrun, -, hst⟩ := Go.WideElems.entry_then_store Try.lawT ht (fun u => Try.zeroInt8 u) hb F hl
  refine ⟨v0, goInt st, _, hrun, ?_, set_block_grown _ _ _, fun v hv => ?_⟩
  · rcases Try.lawT.find w hl es.toList F.keys with ⟨h1, h2⟩ | ⟨j, e0, h1, h2, h3⟩
    · have r1 : (Instr.mapEntry 75 (.map (some b)) (tv x)).run Try.prog w = .ok (.tuple #[.int .i64 0, goInt clock]) (setBlock w b (.map (es.push ⟨tv x, .int .i64 0, clock⟩) (clock + 1))) := by
        simp [Instr.mapEntry, run_underlying ht, MapKept.run_getObj_map hb, Try.lawT.check w false hl, h1, MapKept.run_setObj_map _ hb, Result.andThen, setBlock]
      have r2 : (Instr.mapUpdate 75 (.map (some b)) (tv x) (.int .i64 0)).run Try.prog w = .ok () (setBlock w b (.map (es.push ⟨tv x, .int .i64 0, clock⟩) (clock + 1))) := by
        simp [Instr.mapUpdate, run_underlying ht, MapKept.run_getObj_map hb, Try.lawT.check w false hl, h1, MapKept.run_setObj_map _ hb, Result.andThen, setBlock]
      have r3 : (Instr.lookup 75 (.map (some b)) (tv x) false).run Try.prog w = .ok (.int .i64 0) w := by
        simp [Instr.lookup, run_underlying ht, MapKept.run_getObj_map hb, Try.lawT.check w _ hl, h1, Result.andThen]
      rw [hget] at r3
      have hz : f x = 0 := by simpa using r3
      rw [hrun] at r1
      injection r1 with _ r1
      rw [r1]
      obtain ⟨w', hu, hc, _⟩ := hupd 0 ⟨by decide, by decide⟩
      rw [r2] at hu
      injection hu with _ hu
      rw [hu]
      exact hc.same fun y => by
        unfold updT
        split
        · rename_i e; rw [e, hz]
        · rfl
    · have hj : es[j]? = some e0 := by simpa using h2
      have hsame : es.modify j (fun e => { e with key := tv x }) = es := by
        apply Array.ext'
        rw [Array.toList_modify, Go.ChangeMaps.modify_eq_set _ _ _ _ h2]
        have : ({ e0 with key := tv x } : MapEntry) = e0 := by rw [← h3]
        rw [this]
        exact Go.WideElems.set_self _ _ _ h2
      have r1 : (Instr.mapEntry 75 (.map (some b)) (tv x)).run Try.prog w = .ok (.tuple #[e0.val, goInt e0.born]) (setBlock w b (.map es clock)) := by
        simp [Instr.mapEntry, run_underlying ht, MapKept.run_getObj_map hb, Try.lawT.check w false hl, h1, hj, h3, Try.lawT.stays w hl, hsame, MapKept.run_setObj_map _ hb, Result.andThen, setBlock]
      rw [hrun] at r1
      injection r1 with _ r1
      rw [r1, set_block_same hb]
      exact ⟨D, ⟨es, clock, hb, F, by omega, hD⟩, hf⟩
  · obtain ⟨es', clock', hs1, hs2⟩ := hst (setBlock w b (.map es1 clock1)) (.int .i64 v) (by
      unfold setBlock
      have hlt : b < w.heap.size := (Array.getElem?_eq_some_iff.1 hb).1
      simp [hlt])
    obtain ⟨w', hu, hc, _⟩ := hupd v hv
    rw [hs2] at hu
    injection hu with _ hu
    rw [set_set_block, hu] at hs1
    refine ⟨w', hs1, hc, ?_⟩
    rw [← hu, ← set_set_block w b (.map es1 clock1) (.map es' clock')]
    exact set_block_grown _ _ _
end

end Go.Proofs.Ytjamoafihmcmeaa

import Derived.WalkKit
import Derived.WalkLawsBesides
import Derived.ProofKit
import Derived.Maps.AppendAt
import Derived.Deep.AppendLies
import Derived.Lib.Hide
import Derived.Test.YtfhlligcbpnkkaaDoorRows
import Derived.SizedLaws
import Derived.OpenShut
import Derived.Carry
import Derived.LaidLaws
import Derived.MakeChecks
import Derived.Lay
import Derived.Stop.Joined
import Derived.Deep.WholeRow
import Derived.Laws.Rows
import Derived.Laws.Tables

/-
  Plain words and lemmas for walks over slices of int64, over no program: a slice value that reads as a list of integers, a row of the call's own, how both are kept. Nothing here speaks of a translation.
-/
namespace Go.Proofs.YtfhlligcbpnkkaaDoor
open Go.RowKit

/-- It goes into 64 bits. -/
def Fit (z : Int) : Prop := -9223372036854775808 ≤ z ∧ z ≤ 9223372036854775807

theorem wf_of_fit {z : Int} (h : Fit z) : (Lit.int .i64 z).wf = true := by
  have h1 : IntKind.i64.min = -9223372036854775808 := rfl
  have h2 : IntKind.i64.max = 9223372036854775807 := rfl
  obtain ⟨a, b⟩ := h
  simp only [Lit.wf, Bool.and_eq_true, decide_eq_true_eq]
  omega

theorem fit_of_wf {z : Int} (h : (Lit.int .i64 z).wf = true) : Fit z := by
  have h1 : IntKind.i64.min = -9223372036854775808 := rfl
  have h2 : IntKind.i64.max = 9223372036854775807 := rfl
  simp only [Lit.wf, Bool.and_eq_true, decide_eq_true_eq] at h
  unfold Fit
  omega

/-- The j-th number of a list (0 where there is none): a word that simp does not open. -/
def nth (zs : List Int) (j : Nat) : Int := zs.getD j 0

theorem nth_get {zs : List Int} {j : Nat} (h : j < zs.length) : nth zs j = zs[j] := by simp [nth, List.getD, h]

/-- The slice whose cells begin at A, of length n, reads as the list zs, and lies in blocks that are there. -/
def Ints (w : World) (A : Option Addr) (n : Nat) (zs : List Int) : Prop :=
  zs.length = n ∧ n * 8 ≤ 140737488351232 ∧ (∀ z ∈ zs, Fit z) ∧
    (0 < n → ∃ b o, A = some ⟨b, o, none⟩ ∧ b < w.heap.size ∧ ∀ j, j < n → w.cell? ⟨b, o + j, none⟩ = some (.int .i64 (nth zs j)))

/-- A row that the call has made itself, of int64. -/
def OwnI (E : TypeId) (w : World) (base : Nat) (A : Option Addr) (c : Nat) (zs : List Int) : Prop :=
  zs.length * 8 ≤ 140737488351232 ∧ (∀ z ∈ zs, Fit z) ∧ w.ownsRow base E 1 (.slice A zs.length c) zs.length (zs.map (Value.int .i64))

theorem Ints.keep {w w' : World} {A : Option Addr} {n : Nat} {zs : List Int} (h : Ints w A n zs) (hs : w.heap.size ≤ w'.heap.size)
    (hk : ∀ p : Addr, p.block < w.heap.size → w'.cell? p = w.cell? p) : Ints w' A n zs :=
  ⟨h.1, h.2.1, h.2.2.1, fun hn => by
    obtain ⟨b, o, e, hb, hc⟩ := h.2.2.2 hn
    exact ⟨b, o, e, by omega, fun j hj => (hk ⟨b, o + j, none⟩ hb).trans (hc j hj)⟩⟩

theorem Ints.below {w w' : World} {A : Option Addr} {n : Nat} {zs : List Int} (h : Ints w A n zs) (hb : Below w.heap.size w w') : Ints w' A n zs :=
  h.keep hb.size fun _ hp => hb.cell hp

theorem Ints.alloc {w : World} {A : Option Addr} {n : Nat} {zs : List Int} (h : Ints w A n zs) (o : Obj) : Ints (w.alloc o) A n zs :=
  h.below ((Below.refl _ _).alloc (Nat.le_refl _) o)

theorem Ints.nil_ (w : World) (A : Option Addr) : Ints w A 0 [] := ⟨rfl, by omega, by simp, fun h => by omega⟩

theorem OwnI.ints {E : TypeId} {w : World} {base : Nat} {A : Option Addr} {c : Nat} {zs : List Int} (h : OwnI E w base A c zs) : Ints w A zs.length zs := by
  obtain ⟨hl, hf, hown⟩ := h
  refine ⟨rfl, hl, hf, fun hn => ?_⟩
  obtain ⟨g, cap, hv, _, hlt⟩ := hown.form hn
  injection hv with hA _ _
  subst hA
  refine ⟨g, 0, rfl, hlt, fun j hj => ?_⟩
  have hc := hown.cells (g := g) rfl j (.int .i64 (nth zs j)) (by simp [List.getElem?_eq_getElem hj, nth])
  simpa [Addr.add_lit] using hc

theorem OwnI.below {E : TypeId} {w w' : World} {base : Nat} {A : Option Addr} {c : Nat} {zs : List Int} (h : OwnI E w base A c zs) (hb : Below w.heap.size w w') : OwnI E w' base A c zs :=
  ⟨h.1, h.2.1, h.2.2.kept (row := none) ⟨hb.os, hb.tape, hb.output, hb.size, fun k hk _ => hb.block k hk⟩ (by cases (Value.slice A zs.length c).ownBlock <;> simp)⟩

theorem OwnI.base {E : TypeId} {w : World} {base base' : Nat} {A : Option Addr} {c : Nat} {zs : List Int} (h : OwnI E w base A c zs) (hb : base' ≤ base) : OwnI E w base' A c zs := by
  obtain ⟨hl, hf, h1, h2⟩ := h
  refine ⟨hl, hf, h1, ?_⟩
  rcases h2 with h2 | ⟨g, cap, cur, e, hg, r⟩
  · exact .inl h2
  · exact .inr ⟨g, cap, cur, e, by omega, r⟩

theorem OwnI.nil_ (E : TypeId) (w : World) (base : Nat) : OwnI E w base none 0 [] := ⟨by simp, by simp, World.ownsRow_nil w base E 1⟩

theorem OwnI.made (E : TypeId) (base : Nat) (w : World) (hb : base ≤ w.heap.size := by exact Nat.le_refl _) : OwnI E (w.alloc (.cells #[] E)) base (some ⟨w.heap.size, 0, none⟩) 0 [] :=
  ⟨by simp, by simp, World.ownsRow_made w #[] 0 hb (by unfold maxLen; omega) (by simp)⟩

theorem ret_bool {a b : Bool} (h : a = b) : Ending.returned (.bool a) = .returned (.bool b) := by rw [h]
theorem ret_i64 {a b : Int} (h : a = b) : Ending.returned (.int .i64 a) = .returned (.int .i64 b) := by rw [h]

/-- What a call hands back: a new slice that reads as zs; what was there before is as it was. -/
def NewI (E : TypeId) (zs : List Int) (w : World) (e : Ending) (w' : World) : Prop :=
  ∃ A c, e = .returned (.slice A zs.length c) ∧ OwnI E w' w.heap.size A c zs ∧ Below w.heap.size w w'

/-- Behind a call that makes memory all old cells, and marks, read as before: as two rules of the walk. -/
theorem keepsB {W w1 : World} {B : Nat} (hb : Below B W w1) : (∀ b o, b < B → w1.cell? ⟨b, o, none⟩ = W.cell? ⟨b, o, none⟩) ∧ (∀ b o, b < B → w1.frozen? ⟨b, o, none⟩ = W.frozen? ⟨b, o, none⟩) :=
  ⟨fun b o h => hb.cell (p := ⟨b, o, none⟩) h, fun b o h => hb.frozen (p := ⟨b, o, none⟩) h⟩

/-- Where a row of the call's own that is not empty lies. -/
theorem OwnI.form {E : TypeId} {w : World} {base : Nat} {A : Option Addr} {c : Nat} {zs : List Int} (h : OwnI E w base A c zs) (hn : 0 < zs.length) :
    ∃ g, A = some ⟨g, 0, none⟩ ∧ base ≤ g ∧ g < w.heap.size ∧ zs.length ≤ c ∧ c ≤ maxLen := by
  obtain ⟨hl, hf, hrow⟩ := h
  rcases hrow.2 with ⟨h1, h2⟩ | ⟨g, cap, cur, e, hb, hh, hc, hm, _⟩
  · omega
  · injection e with e1 e2 e3
    subst e1 e3
    exact ⟨g, rfl, hb, (Array.getElem?_eq_some_iff.1 hh).1, hc, hm⟩

theorem OwnI.block {E : TypeId} {w : World} {base : Nat} {A : Option Addr} {c : Nat} {zs : List Int} (h : OwnI E w base A c zs) {n d : Nat} : ∀ k, (Value.slice A n d).ownBlock = some k → base ≤ k := by
  intro k hk
  refine (h.2.2.lt k ?_).1
  cases A with
  | none => simp [Value.ownBlock] at hk
  | some ad => simpa [Value.ownBlock] using hk

theorem OwnI.at_ {E : TypeId} {w : World} {base : Nat} {g c : Nat} {zs : List Int} (h : OwnI E w base (some ⟨g, 0, none⟩) c zs) {j : Nat} (hj : j < zs.length) :
    w.cell? ⟨g, j, none⟩ = some (.int .i64 (nth zs j)) ∧ w.frozen? ⟨g, j, none⟩ = false := by
  refine ⟨?_, h.2.2.frozenAt j⟩
  rw [h.2.2.cellAt j (by omega)]
  simp [hj, nth_get]

theorem OwnI.set_ {E : TypeId} {w : World} {base : Nat} {g c : Nat} {zs : List Int} (h : OwnI E w base (some ⟨g, 0, none⟩) c zs) (j : Nat) {x : Int} (hx : Fit x) :
    OwnI E (w.setCell ⟨g, j, none⟩ (.int .i64 x)) base (some ⟨g, 0, none⟩) c (zs.set j x) := by
  obtain ⟨hl, hf, hrow⟩ := h
  refine ⟨by simpa using hl, fun z hz => ?_, ?_⟩
  · rcases List.mem_or_eq_of_mem_set hz with h | h
    · exact hf z h
    · exact h ▸ hx
  · simpa using (hrow.stored j (.int .i64 x)).1

theorem Ints.append_src {w : World} {A : Option Addr} {n : Nat} {zs : List Int} (h : Ints w A n zs) {a : Addr} (e : A = some a) :
    ∀ j u, (zs.map (Value.int .i64))[j]? = some u → w.cell? (a.add j) = some u := by
  intro j u hu
  have hj : j < zs.length := by simpa using (List.getElem?_eq_some_iff.1 hu).1
  obtain ⟨b, o, e', _, hc⟩ := h.2.2.2 (by have := h.1; omega)
  rw [e'] at e
  injection e with e
  subst e
  rw [Addr.add_lit, hc j (by have := h.1; omega), nth_get hj]
  simpa [hj] using hu

theorem run_append_nothing {P : Program} (w : World) (base : Nat) (t ty e : TypeId) (i : TypeInfo) (ht : P.underlying t = some (.slice e)) (hi : P.info? e = some i)
    (v : Value) (n : Nat) (xs : List Value) (hown : w.ownsRow base e 1 v n xs) (d : Nat) :
    (Builtin.append_ #[t, t] ty #[v, .slice none 0 d]).run P w = .ok v w := by
  rcases hown.2 with ⟨rfl, rfl⟩ | ⟨g, cap, cur, rfl, _, _, hnc, _⟩
  all_goals simp [Builtin.append_, run_underlying ht, sizeOf, typeInfo, Builtin.lenOf, Builtin.firstCells, *, storeCells]

/-- What a row of the call's own has become. -/
def Longer (E : TypeId) (w : World) (base : Nat) (A : Option Addr) (c : Nat) (xs ys : List Int) (v : Value) (w' : World) : Prop :=
  ∃ A' c', v = .slice A' (xs ++ ys).length c' ∧ OwnI E w' base A' c' (xs ++ ys) ∧ w.grownBy w' (Value.slice A xs.length c).ownBlock

theorem run_append_ints {P : Program} (w : World) (t ty E : TypeId) (ht : P.underlying t = some (.slice E)) (hi : (P.info? E).map (fun i => (i.zero, i.size, i.bytes)) = some (some (.int .i64 0), 1, 8))
    (base : Nat) (A : Option Addr) (c : Nat) (xs : List Int) (hown : OwnI E w base A c xs) (B : Option Addr) (m d : Nat) (ys : List Int) (hy : Ints w B m ys)
    (hb : (xs.length + m) * 8 ≤ 140737488351232) (hbase : base ≤ w.heap.size) :
    ∃ v' w', (Builtin.append_ #[t, t] ty #[.slice A xs.length c, .slice B m d]).run P w = .ok v' w' ∧ Longer E w base A c xs ys v' w' := by
  obtain ⟨i, hi, hz0, hz1, hz2⟩ := info_parts hi
  obtain ⟨hl, hf, hrow⟩ := hown
  obtain ⟨ly, by_, fy, _⟩ := id hy
  have hff : ∀ z ∈ xs ++ ys, Fit z := fun z hz => (List.mem_append.1 hz).elim (hf z) (fy z)
  cases B with
  | none =>
    have hm : m = 0 := by
      rcases Nat.eq_zero_or_pos m with h | h
      · exact h
      · obtain ⟨b, o, e, _⟩ := hy.2.2.2 h
        cases e
    subst hm
    obtain rfl : ys = [] := List.eq_nil_of_length_eq_zero ly
    refine ⟨_, w, run_append_nothing w base t ty E i ht hi _ _ _ hrow d, A, c, by simp, ?_, World.grownBy.refl _ _⟩
    simpa [OwnI] using ⟨hl, hf, hrow⟩
  | some ad =>
    obtain ⟨v', w', hr, h2, h3, _⟩ := run_append_own_at (P := P) w base t ty E i (.int .i64 0) 1 8 ht hi hz0 hz1 hz2 rfl (by decide) _ _ _ hrow ad m d (ys.map (Value.int .i64)) (by simp [ly]) (hy.append_src rfl) (ints_oneCell .i64 ys)
      (by unfold maxLen; omega) (by omega) hbase
    refine ⟨v', w', hr, ?_⟩
    have e : ∃ A' c', v' = .slice A' (xs ++ ys).length c' := by
      rcases h2.2 with ⟨rfl, h0⟩ | ⟨g, cap, cur, rfl, _⟩
      · exact ⟨none, 0, by rw [List.length_append, ly, h0]⟩
      · exact ⟨_, cap, by rw [List.length_append, ly]⟩
    obtain ⟨A', c', rfl⟩ := e
    refine ⟨A', c', rfl, ⟨by rw [List.length_append]; omega, hff, ?_⟩, h3⟩
    simpa [ly] using h2

/-- append, at the operation: onto a row of the call's own, whatever slice comes behind. -/
theorem wpList_append_ints {P : Program} (w : World) {ops : Array Oper} {rest : List Oper} {o : Oper} {a : Act} {Q : Exit → Act → World → Prop} (hgd : o.guard = none) (s x : Operand) (t : TypeId)
    (ho : o.op = .call { callee := .builtin .append, args := #[s, x], argTypes := #[t, t] })
    (E : TypeId) (ht : P.underlying t = some (.slice E)) (hi : (P.info? E).map (fun i => (i.zero, i.size, i.bytes)) = some (some (.int .i64 0), 1, 8))
    (base : Nat) (A : Option Addr) (c : Nat) (xs : List Int) (n : Nat) (hn : n = xs.length) (hs : a.eval s = .slice A n c) (hown : OwnI E w base A c xs) (B : Option Addr) (m d : Nat) (ys : List Int) (hx : a.eval x = .slice B m d) (hy : Ints w B m ys)
    (hb : (xs.length + m) * 8 ≤ 140737488351232) (hbase : base ≤ w.heap.size)
    (h : ∀ A' c' w', OwnI E w' base A' c' (xs ++ ys) → w.grownBy w' (Value.slice A n c).ownBlock → wpList P ops Q rest (a.put o.dst (.slice A' (xs ++ ys).length c')) w') :
    wpList P ops Q (o :: rest) a w := by
  subst hn
  refine wpList_plain hgd fun K hK => ?_
  obtain ⟨v', w', hr, A', c', rfl, h2, h3⟩ := run_append_ints (P := P) w t o.type E ht hi base A c xs hown B m d ys hy hb hbase
  unfold Oper.wp execOp
  simp only [ho, resolve, invoke, builtin, Sem.run_bind, Sem.run_pure, Result.andThen_ok, List.map_toArray, List.map_cons, List.map_nil, hs, hx, hr]
  exact hK _ _ (h A' c' w' h2 h3)

/-- True, and new memory alone. -/
def TrueAns (w : World) (e : Ending) (w' : World) : Prop := e = .returned (.bool true) ∧ Below w.heap.size w w'

instance (z : Int) : Decidable (Fit z) := by unfold Fit; exact inferInstance

/-- Two steps of new memory, one behind the other. -/
theorem below3 {B : Nat} {w w1 w2 : World} (h1 : Below B w w1) (h2 : Below w1.heap.size w1 w2) (hB : B ≤ w.heap.size := by first | exact Nat.le_refl _ | omega) : Below B w w2 :=
  h1.trans (h2.mono (Nat.le_trans hB h1.size))

/-- A cell that is there, and may be written. -/
def At (w : World) (b o : Nat) (v : Value) : Prop := b < w.heap.size ∧ w.cell? ⟨b, o, none⟩ = some v ∧ w.frozen? ⟨b, o, none⟩ = false

theorem At.below {w w1 : World} {b o : Nat} {v : Value} (h : At w b o v) (hb : Below w.heap.size w w1) : At w1 b o v :=
  ⟨Nat.lt_of_lt_of_le h.1 hb.size, (hb.cell (p := ⟨b, o, none⟩) h.1).trans h.2.1, (hb.frozen (p := ⟨b, o, none⟩) h.1).trans h.2.2⟩

end Go.Proofs.YtfhlligcbpnkkaaDoor

/-
  From a walk to a law's row, for any law of this seat that comes to true and leaves all that was there as it was: one theorem for all of them; and how a slice of int64 among the arguments is read.
-/
namespace Go.Proofs.YtfhlligcbpnkkaaDoor
open Go.ChangeShapes Go.WideShapes Go.ChangeAt Go.RowKit

theorem Tryd.own : ownKnob Tryd.prog.godebug = none := by kernel_rfl
theorem Tryd.laidOut : laidOutB Tryd.prog = true := by kernel_rfl

section
variable {H : Type} {enc : TypeId × Value → H}

/-- All arguments read behind the call as they read before, where nothing that was there has changed. -/
theorem trodAll_below {W W' : World} (hb : Below W.heap.size W W') : ∀ {ts : List TypeId} {vs : List Value} {ds : List (DataW H)} {p : List MemPlace},
    (∀ t ∈ ts, Tryd.prog.readableRec t = true ∧ t < Tryd.prog.types.size) → DataW.TrodAll enc Tryd.prog W 0 (fun _ => true) true ts vs ds p → (∀ x ∈ p, x.block < W.heap.size) →
    DataW.TrodAll enc Tryd.prog W' 0 (fun b => decide (b < W.heap.size)) true ts vs ds p
  | [], _, _, _, _, h, _ => by
    obtain ⟨rfl, rfl, rfl⟩ := trodAll_nil h
    exact trodAll_mk0
  | t :: ts, _, _, _, ht, h, hlt => by
    obtain ⟨v, vs, d, ds, p, q, rfl, rfl, rfl, h0, h1⟩ := trodAll_cons h
    exact trodAll_cons_mk (Below.trod Tryd.laidOut (ht t (by simp)).1 (ht t (by simp)).2 h0 hb fun x hx => hlt x (by simp [hx]))
      (trodAll_below hb (fun t h => ht t (by simp [h])) h1 fun x hx => hlt x (by simp [hx]))

/-- What the walk of a law is to give, at any arguments that can be read. -/
def Gives (enc : TypeId × Value → H) (f : FuncId) (ts : List TypeId) (spec : ChangeSpec) : Prop :=
  ∀ (W : World) (base : Nat) (args : Array Value) (ds : List (DataW H)) (p : List MemPlace),
    (∀ (j : Nat) t v, ts[j]? = some t → args[j]? = some v → Value.okWide Tryd.prog W .any base t v) →
    DataW.TrodAll enc Tryd.prog W 0 (fun _ => true) true ts args.toList ds p → (DataW.weightsEach Tryd.prog ts ds).all (· ≤ reachBytes) = true → (∀ x ∈ p, x.block < W.heap.size) →
    spec.fn H ds = { results := [.lit (.bool true)], args := ds } ∧ Calls Tryd.prog f args W (TrueAns W)

set_option maxRecDepth 100000 in
theorem law_lifted (os : Os) (started : os.Started) (f : FuncId) (fn : Func) (spec : ChangeSpec) (hvars : spec.vars = []) (hplain : spec.plain.varTypes Tryd.prog = []) (noInit : Tryd.prog.inits.idxOf? f = none) (hfn : Tryd.prog.funcs[f]? = some fn)
    (hts : (fn.params.toList.all fun t => Tryd.prog.readableRec t && decide (t < Tryd.prog.types.size)) = true) (hrt : fn.resultTypes = #[4])
    (witness : ∃ (w : World) (tape : Tape) (i : Input), w.os = os ∧ (w.forCall tape i).Shaped Tryd.prog ∧ i.vars = [] ∧ Input.okWide Tryd.prog (w.forCall tape i) .any w.heap.size f i ∧
      spec.pre6 enc Tryd.prog fn [] false (w.forCall tape i).memory i.args ∧ ({} : Assume).holds Tryd.prog (lone (Frame.enter Tryd.prog f i.args .normal) [] (w.forCall tape i)))
    (walk : Gives enc f fn.params.toList spec) :
    ReturnsInHanded {} Tryd.checked os f .any (spec.pre6 enc Tryd.prog fn [] false) (spec.post enc Tryd.prog fn false true false false) := by
  refine returnsInHanded_of_change_sized (C := Tryd.checked) Tryd.own started noInit hfn witness ?_
  intro W base args ds gs before hval0 hW _ hsz0 _
  have hW' := hW
  obtain ⟨p, q, hA0, hV, rfl, _, _⟩ := hW
  rw [hvars] at hV
  have hA : DataW.TrodAll enc Tryd.prog W 0 (fun _ => true) true fn.params.toList args.toList ds p := hA0
  obtain ⟨rfl, rfl⟩ := trodVars_none hV
  have hsz : (DataW.weightsEach Tryd.prog (fn.params.toList ++ spec.plain.varTypes Tryd.prog) (ds ++ [])).all (· ≤ reachBytes) = true := hsz0
  rw [hplain, List.append_nil, List.append_nil] at hsz
  have hlt : ∀ x ∈ p, x.block < W.heap.size := fun x hx => hW'.lt x (by simp [hx])
  obtain ⟨hspec, hcalls⟩ := walk W base args ds p (fun j t v h1 h2 => hval0 j t v (by simpa using h1) h2) hA hsz hlt
  refine hcalls.mono fun e W' ⟨he, hb⟩ => ?_
  subst he
  have hts' : ∀ t ∈ fn.params.toList, Tryd.prog.readableRec t = true ∧ t < Tryd.prog.types.size := fun t ht => by
    have := List.all_eq_true.1 hts t ht
    simpa using this
  refine ⟨_, rfl, ds, [], p ++ [], [], p, [], hW', ?_, ?_, ?_, hb.frame _, fun h => by cases h⟩
  · rw [List.append_nil, hspec, hrt]
    exact trodAll_mk1 (shut_bool Tryd.underlying4 true)
  · rw [List.append_nil, hspec]
    exact trodAll_below hb hts' hA hlt
  · rw [List.append_nil, hspec, hvars]
    rfl

end

end Go.Proofs.YtfhlligcbpnkkaaDoor

/-
  From a walk to a law's row that lists package-level variables: as Row, with what the row's condition gives beside.
-/
namespace Go.Proofs.YtfhlligcbpnkkaaDoor
open Go.ChangeShapes Go.WideShapes Go.ChangeAt Go.RowKit

section
variable {H : Type} {enc : TypeId × Value → H}

/-- What the walk of a law is to give, at any arguments that can be read, where L holds of the world. -/
def GivesL (L : World → Prop) (enc : TypeId × Value → H) (f : FuncId) (ts : List TypeId) (spec : ChangeSpec) : Prop :=
  ∀ (W : World) (base : Nat) (args : Array Value) (ds : List (DataW H)) (p : List MemPlace),
    (∀ (j : Nat) t v, ts[j]? = some t → args[j]? = some v → Value.okWide Tryd.prog W .any base t v) →
    DataW.TrodAll enc Tryd.prog W 0 (fun _ => true) true ts args.toList ds p → (DataW.weightsEach Tryd.prog ts ds).all (· ≤ reachBytes) = true → (∀ x ∈ p, x.block < W.heap.size) → L W →
    spec.fn H ds = { results := [.lit (.bool true)], args := ds } ∧ Calls Tryd.prog f args W (TrueAns W)

set_option maxRecDepth 100000 in
theorem lawL_lifted (os : Os) (started : os.Started) (f : FuncId) (fn : Func) (spec : ChangeSpec) (laid : List (String × DataW Unit)) (L : World → Prop) (hL : ∀ W, laidMetH Tryd.prog laid W → L W)
    (hvars : spec.vars = []) (hplain : spec.plain.varTypes Tryd.prog = []) (noInit : Tryd.prog.inits.idxOf? f = none) (hfn : Tryd.prog.funcs[f]? = some fn)
    (hts : (fn.params.toList.all fun t => Tryd.prog.readableRec t && decide (t < Tryd.prog.types.size)) = true) (hrt : fn.resultTypes = #[4])
    (witness : ∃ (w : World) (tape : Tape) (i : Input), w.os = os ∧ (w.forCall tape i).Shaped Tryd.prog ∧ i.vars = [] ∧ Input.okWide Tryd.prog (w.forCall tape i) .any w.heap.size f i ∧
      ((spec.pre enc Tryd.prog fn [] false (w.forCall tape i).memory i.args ∧ laidMetH Tryd.prog laid (w.forCall tape i).memory) ∧ sizedMet enc Tryd.prog fn (OpenSpec.ofChange spec) false (w.forCall tape i).memory i.args) ∧ ({} : Assume).holds Tryd.prog (lone (Frame.enter Tryd.prog f i.args .normal) [] (w.forCall tape i)))
    (walk : GivesL L enc f fn.params.toList spec) :
    ReturnsInHanded {} Tryd.checked os f .any (fun w args => (spec.pre enc Tryd.prog fn [] false w args ∧ laidMetH Tryd.prog laid w) ∧ sizedMet enc Tryd.prog fn (OpenSpec.ofChange spec) false w args) (spec.post enc Tryd.prog fn false true false false) := by
  refine returnsInHanded_of_change_and (C := Tryd.checked) (X := fun w _ => laidMetH Tryd.prog laid w) (fun _ _ _ hh (h : laidMetH Tryd.prog laid _) => laidMetH.of_heap hh h) Tryd.own started noInit hfn witness ?_
  intro W base args ds gs before hval0 hW _ hsz0 hlaid _
  have hW' := hW
  obtain ⟨p, q, hA0, hV, rfl, _, _⟩ := hW
  rw [hvars] at hV
  have hA : DataW.TrodAll enc Tryd.prog W 0 (fun _ => true) true fn.params.toList args.toList ds p := hA0
  obtain ⟨rfl, rfl⟩ := trodVars_none hV
  have hsz : (DataW.weightsEach Tryd.prog (fn.params.toList ++ spec.plain.varTypes Tryd.prog) (ds ++ [])).all (· ≤ reachBytes) = true := hsz0
  rw [hplain, List.append_nil, List.append_nil] at hsz
  have hlt : ∀ x ∈ p, x.block < W.heap.size := fun x hx => hW'.lt x (by simp [hx])
  obtain ⟨hspec, hcalls⟩ := walk W base args ds p (fun j t v h1 h2 => hval0 j t v (by simpa using h1) h2) hA hsz hlt (hL W hlaid)
  refine hcalls.mono fun e W' ⟨he, hb⟩ => ?_
  subst he
  have hts' : ∀ t ∈ fn.params.toList, Tryd.prog.readableRec t = true ∧ t < Tryd.prog.types.size := fun t ht => by
    have := List.all_eq_true.1 hts t ht
    simpa using this
  refine ⟨_, rfl, ds, [], p ++ [], [], p, [], hW', ?_, ?_, ?_, hb.frame _, fun h => by cases h⟩
  · rw [List.append_nil, hspec, hrt]
    exact trodAll_mk1 (shut_bool Tryd.underlying4 true)
  · rw [List.append_nil, hspec]
    exact trodAll_below hb hts' hA hlt
  · rw [List.append_nil, hspec, hvars]
    rfl

end

end Go.Proofs.YtfhlligcbpnkkaaDoor

/-
  A block of memory that is known whole: what is read of it, stored into it, and how it is kept. Over no program.
-/
namespace Go.Proofs.YtfhlligcbpnkkaaDoor
open Go.RowKit

/-- Block g is just these cells, none of them frozen. -/
def Bk (w : World) (g : Nat) (t : TypeId) (cs : Array Value) : Prop := w.heap[g]? = some (.cells cs t (0, 0))

section
variable {w w' : World} {g : Nat} {t : TypeId} {cs : Array Value} {P : Program}
theorem Bk.lt (h : Bk w g t cs) : g < w.heap.size := (Array.getElem?_eq_some_iff.1 h).1
theorem Bk.cell (h : Bk w g t cs) (i : Nat) : w.cell? ⟨g, i, none⟩ = cs[i]? := cell_of_row w g i cs t (0, 0) h
theorem Bk.frozen (h : Bk w g t cs) (i : Nat) : w.frozen? ⟨g, i, none⟩ = false := by simp [World.frozen?, show w.heap[g]? = _ from h]
theorem Bk.new (w : World) (t : TypeId) (cs : Array Value) : Bk (w.alloc (.cells cs t)) w.heap.size t cs := heap_alloc_last w _
theorem Bk.drew (h : Bk w g t cs) : Bk w.drew g t cs := h
theorem Bk.alloc (h : Bk w g t cs) (o : Obj) : Bk (w.alloc o) g t cs := (((Below.refl w.heap.size w).alloc (Nat.le_refl _) o).block g h.lt).trans h
theorem Bk.below {B : Nat} (h : Bk w g t cs) (hb : Below B w w') (hg : g < B) : Bk w' g t cs := (hb.block g hg).trans h
theorem Bk.set_ (h : Bk w g t cs) (i : Nat) (u : Value) : Bk (w.setCell ⟨g, i, none⟩ u) g t (cs.setIfInBounds i u) := by
  have h' : w.heap[g]? = _ := h
  simp [Bk, World.setCell, Array.getElem?_modify, h']
theorem Bk.far (h : Bk w g t cs) {p : Addr} (hp : g ≠ p.block) (u : Value) : Bk (w.setCell p u) g t cs := by
  have h' : w.heap[g]? = _ := h
  simp [Bk, World.setCell, Array.getElem?_modify, h', Ne.symm hp]

/-- The whole block, read. -/
theorem Bk.load (h : Bk w g t cs) {n : Nat} (hn : cs.size = n) : (loadCellsFrom ⟨g, 0, none⟩ 0 n #[]).run P w = .ok cs w := by
  subst hn
  have := run_loadCells_list (P := P) w ⟨g, 0, none⟩ cs.toList (fun j v hv => by
    have hadd : (⟨g, 0, none⟩ : Addr).add j = ⟨g, j, none⟩ := by unfold Addr.add; split <;> simp_all
    rw [hadd, h.cell]
    simpa using hv)
  simpa [loadCells] using this

/-- The whole block, stored into. -/
theorem Bk.store (h : Bk w g t cs) {c' : Array Value} (hs : cs.size = c'.size) (h1 : c'.all (·.oneCell') = true) : (storeCells ⟨g, 0, none⟩ c'.toList 0).run P w = .ok () (w.setRow g c') := by
  have := run_storeCells_from (P := P) g t c'.toList 0 cs w h (by simp; omega) (fun v hv => (Array.all_eq_true_iff_forall_mem.1 h1) v (by simpa using hv))
  simpa using this
theorem Bk.row (h : Bk w g t cs) (c' : Array Value) : Bk (w.setRow g c') g t c' := by
  have h' : w.heap[g]? = _ := h
  simp [Bk, World.setRow, Array.getElem?_modify, h']
theorem Bk.row_far (h : Bk w g t cs) {k : Nat} (hk : k ≠ g) (c' : Array Value) : Bk (w.setRow k c') g t cs := by
  have h' : w.heap[g]? = _ := h
  simp [Bk, World.setRow, Array.getElem?_modify, h', hk]
theorem below_row {B : Nat} {a : World} (h : Below B a w) {k : Nat} (hk : B ≤ k) (c' : Array Value) : Below B a (w.setRow k c') :=
  ⟨h.os, h.tape, h.output, by have := h.size; simpa [World.setRow] using this, fun j hj => by
    have := h.block j hj
    rw [← this]
    simp [World.setRow, Array.getElem?_modify, show ¬ k = j by omega]⟩

end

end Go.Proofs.YtfhlligcbpnkkaaDoor

/-
  Layer 12: what the table of states holds, by the row's condition: a plain word for it, kept by all that makes memory alone.
-/
namespace Go.Proofs.YtfhlligcbpnkkaaDoor
open Go.RowKit

/-- Is it a state? -/
def stB (n : Int) : Bool := decide (1 ≤ n) && decide (n ≤ 7)
/-- May a state follow another one? -/
def tabB (i j : Nat) : Bool :=
  (decide (i = 1) && (decide (j = 2) || decide (j = 7))) || (decide (i = 2) && (decide (j = 1) || (decide (3 ≤ j) && decide (j ≤ 7)))) || (decide (3 ≤ i) && decide (i ≤ 6) && (decide (j = 1) || decide (j = 7)))

/-- The table. -/
def Fol (w : World) : Prop := 0 < w.heap.size ∧ ∀ i j, i < 8 → j < 8 → w.cell? ⟨0, i * 8 + j, none⟩ = some (.bool (tabB i j))

theorem Fol.below {w w' : World} {B : Nat} (h : Fol w) (hb : Below B w w') (hB : 0 < B) : Fol w' :=
  ⟨Nat.lt_of_lt_of_le h.1 hb.size, fun i j hi hj => (hb.cell (p := ⟨0, i * 8 + j, none⟩) hB).trans (h.2 i j hi hj)⟩
theorem Fol.le {w w' : World} (h : Fol w) (hb : Below w.heap.size w w') : Fol w' := h.below hb h.1

theorem fol_of_laid (W : World) (h : laidMetH Tryd.prog [("ravel/life.follows", Rows.laid_ravel_life_follows)] W) : Fol W := by
  rw [MakeChecks.laidMetH_plain _ _ _ (by kernel_rfl)] at h
  obtain ⟨ps, ⟨g, t, cs, fuel, p, q, hg, ht, hv, hd, _, hps⟩, _, hin⟩ := h
  obtain rfl := Option.some.inj ((show Tryd.prog.globalNamed "ravel/life.follows" = some 0 by kernel_rfl).symm.trans hg)
  obtain rfl := Option.some.inj ((show (Tryd.prog.globals[0]?).map (·.type) = some 90 by kernel_rfl).symm.trans ht)
  obtain ⟨xs, m, _, ex, _, hl, hel⟩ := DataW.trod_array Tryd.underlying90 hd
  have c8 : Tryd.prog.cellsOf 89 = 8 := by kernel_rfl
  have c1 : Tryd.prog.cellsOf 4 = 1 := by kernel_rfl
  have e3 : xs.map (·.1) = _ := (DataW.agg.inj (Prod.mk.inj ex).1).symm
  have key : ∀ i j, i < 8 → j < 8 → cs.toList[i * 8 + j]? = some (.bool (tabB i j)) := by
    intro i j hi hj
    have hE := hel i hi
    rw [c8, List.getElem?_eq_getElem (by omega)] at hE
    obtain ⟨ys, m2, _, ey, _, hl2, hel2⟩ := DataW.trod_array Tryd.underlying89 hE
    have hF := hel2 j hj
    rw [c1, Nat.mul_one, List.getElem?_eq_getElem (by omega)] at hF
    obtain ⟨b, f1, f2⟩ := DataW.trod_bool Tryd.underlying4 hF
    have e4 : (xs.map (·.1))[i]? = some (.agg (ys.map (·.1))) := by
      rw [List.getElem?_map, List.getElem?_eq_getElem (by omega : i < xs.length), ey]; rfl
    have e5 : (ys.map (·.1))[j]? = some (.lit (.bool b)) := by
      rw [List.getElem?_map, List.getElem?_eq_getElem (by omega : j < ys.length), f2]; rfl
    have hb : b = tabB i j := by
      rw [e3] at e4
      have hd : ∀ i, i < 8 → ∀ (zs : List (DataW Unit)), (match (Rows.laid_ravel_life_follows : DataW Unit) with | .agg l => l | _ => [])[i]? = some (.agg zs) → ∀ j, j < 8 → zs[j]? = some (.lit (.bool (tabB i j))) := by
        intro i hi zs hz j hj
        have h8 : i = 0 ∨ i = 1 ∨ i = 2 ∨ i = 3 ∨ i = 4 ∨ i = 5 ∨ i = 6 ∨ i = 7 := by omega
        have k8 : j = 0 ∨ j = 1 ∨ j = 2 ∨ j = 3 ∨ j = 4 ∨ j = 5 ∨ j = 6 ∨ j = 7 := by omega
        rcases h8 with rfl | rfl | rfl | rfl | rfl | rfl | rfl | rfl <;>
          (simp only [Rows.laid_ravel_life_follows, List.getElem?_cons_zero, List.getElem?_cons_succ, Option.some.injEq, DataW.agg.injEq] at hz
           subst hz
           rcases k8 with rfl | rfl | rfl | rfl | rfl | rfl | rfl | rfl <;> rfl)
      have := hd i hi _ e4 j hj
      rw [e5] at this
      simpa using this
    subst hb
    have h0 : ((((cs.toList.drop (i * 8)).take 8).drop j).take 1)[0]? = some (.bool (tabB i j)) := by rw [f1]; rfl
    simpa [List.getElem?_take, List.getElem?_drop, hj] using h0
  refine ⟨?_, fun i j hi hj => ?_⟩
  · have hm : MemPlace.cell 0 0 ∈ ps := by
      rw [hps]
      have hs : 0 < cs.size := by
        have := (List.getElem?_eq_some_iff.1 (key 0 0 (by omega) (by omega))).1
        simpa using this
      exact List.mem_append_left _ (List.mem_append_left _ (MemPlace.mem_row.2 ⟨0, hs, by simp⟩))
    obtain ⟨⟨c, t, hc⟩, _⟩ := hin _ _ hm
    exact (Array.getElem?_eq_some_iff.1 hc).1
  · rw [World.var?_cell hg hv (i * 8 + j)]
    have := key i j hi hj
    simpa using this

end Go.Proofs.YtfhlligcbpnkkaaDoor

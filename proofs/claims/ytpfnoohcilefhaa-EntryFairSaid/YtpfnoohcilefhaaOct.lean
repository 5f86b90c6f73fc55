/-
  Plain words and lemmas for walks over slices of octets, over no program: a slice value that reads as a list of numbers 0 to 255, a row of octets of the call's own, how both are kept, and what a conversion to a string makes of them.
-/
import Derived.Test.YtpfnoohcilefhaaBase
import Derived.Shelf.Bytes.SlSmallAll
namespace Go.Proofs.Ytpfnoohcilefhaa
open Go.RowKit

/-- It is an octet. -/
def Oct (z : Int) : Prop := 0 ≤ z ∧ z ≤ 255

theorem oct_of_wf {z : Int} (h : (Lit.int .u8 z).wf = true) : Oct z := by
  have h1 : IntKind.u8.min = 0 := rfl
  have h2 : IntKind.u8.max = 255 := rfl
  simp only [Lit.wf, Bool.and_eq_true, decide_eq_true_eq] at h
  unfold Oct
  omega

/-- The slice whose cells begin at A, of length n, reads as the octets zs, and lies in blocks that are there. -/
def Octs (w : World) (A : Option Addr) (n : Nat) (zs : List Int) : Prop :=
  zs.length = n ∧ n ≤ 140737488351232 ∧ (∀ z ∈ zs, Oct z) ∧
    (0 < n → ∃ b o, A = some ⟨b, o, none⟩ ∧ b < w.heap.size ∧ ∀ j, j < n → w.cell? ⟨b, o + j, none⟩ = some (.int .u8 (nth zs j)))

/-- A row of octets that the call has made itself. -/
def OwnO (E : TypeId) (w : World) (base : Nat) (A : Option Addr) (c : Nat) (zs : List Int) : Prop :=
  zs.length ≤ 140737488351232 ∧ (∀ z ∈ zs, Oct z) ∧ w.ownsRow base E 1 (.slice A zs.length c) zs.length (zs.map (Value.int .u8))

theorem Octs.oct {w : World} {A : Option Addr} {n : Nat} {zs : List Int} (h : Octs w A n zs) (j : Nat) : Oct (nth zs j) := by
  rcases Nat.lt_or_ge j zs.length with hj | hj
  · rw [nth_get hj]; exact h.2.2.1 _ (List.getElem_mem hj)
  · simp [nth, List.getD, List.getElem?_eq_none hj, Oct]

theorem Octs.keep {w w' : World} {A : Option Addr} {n : Nat} {zs : List Int} (h : Octs w A n zs) (hs : w.heap.size ≤ w'.heap.size)
    (hk : ∀ p : Addr, p.block < w.heap.size → w'.cell? p = w.cell? p) : Octs w' A n zs :=
  ⟨h.1, h.2.1, h.2.2.1, fun hn => by
    obtain ⟨b, o, e, hb, hc⟩ := h.2.2.2 hn
    exact ⟨b, o, e, by omega, fun j hj => (hk ⟨b, o + j, none⟩ hb).trans (hc j hj)⟩⟩

theorem Octs.below {w w' : World} {A : Option Addr} {n : Nat} {zs : List Int} (h : Octs w A n zs) (hb : Below w.heap.size w w') : Octs w' A n zs :=
  h.keep hb.size fun _ hp => hb.cell hp

theorem Octs.nil_ (w : World) (A : Option Addr) : Octs w A 0 [] := ⟨rfl, by omega, by simp, fun h => by omega⟩

theorem OwnO.octs {E : TypeId} {w : World} {base : Nat} {A : Option Addr} {c : Nat} {zs : List Int} (h : OwnO E w base A c zs) : Octs w A zs.length zs := by
  obtain ⟨hl, hf, hown⟩ := h
  refine ⟨rfl, hl, hf, fun hn => ?_⟩
  obtain ⟨g, cap, hv, _, hlt⟩ := hown.form hn
  injection hv with hA _ _
  subst hA
  refine ⟨g, 0, rfl, hlt, fun j hj => ?_⟩
  have hc := hown.cells (g := g) rfl j (.int .u8 (nth zs j)) (by simp [List.getElem?_eq_getElem hj, nth])
  simpa [Addr.add_lit] using hc

theorem OwnO.below {E : TypeId} {w w' : World} {base : Nat} {A : Option Addr} {c : Nat} {zs : List Int} (h : OwnO E w base A c zs) (hb : Below w.heap.size w w') : OwnO E w' base A c zs :=
  ⟨h.1, h.2.1, h.2.2.kept (row := none) ⟨hb.os, hb.tape, hb.output, hb.size, fun k hk _ => hb.block k hk⟩ (by cases (Value.slice A zs.length c).ownBlock <;> simp)⟩

theorem OwnO.base {E : TypeId} {w : World} {base base' : Nat} {A : Option Addr} {c : Nat} {zs : List Int} (h : OwnO E w base A c zs) (hb : base' ≤ base) : OwnO E w base' A c zs := by
  obtain ⟨hl, hf, h1, h2⟩ := h
  refine ⟨hl, hf, h1, ?_⟩
  rcases h2 with h2 | ⟨g, cap, cur, e, hg, r⟩
  · exact .inl h2
  · exact .inr ⟨g, cap, cur, e, by omega, r⟩

theorem OwnO.nil_ (E : TypeId) (w : World) (base : Nat) : OwnO E w base none 0 [] := ⟨by simp, by simp, World.ownsRow_nil w base E 1⟩

theorem OwnO.made (E : TypeId) (base : Nat) (w : World) (hb : base ≤ w.heap.size := by exact Nat.le_refl _) : OwnO E (w.alloc (.cells #[] E)) base (some ⟨w.heap.size, 0, none⟩) 0 [] :=
  ⟨by simp, by simp, World.ownsRow_made w #[] 0 hb (by unfold maxLen; omega) (by simp)⟩

theorem OwnO.form {E : TypeId} {w : World} {base : Nat} {A : Option Addr} {c : Nat} {zs : List Int} (h : OwnO E w base A c zs) (hn : 0 < zs.length) :
    ∃ g, A = some ⟨g, 0, none⟩ ∧ base ≤ g ∧ g < w.heap.size ∧ zs.length ≤ c ∧ c ≤ maxLen := by
  obtain ⟨hl, hf, hrow⟩ := h
  rcases hrow.2 with ⟨h1, h2⟩ | ⟨g, cap, cur, e, hb, hh, hc, hm, _⟩
  · omega
  · injection e with e1 e2 e3
    subst e1 e3
    exact ⟨g, rfl, hb, (Array.getElem?_eq_some_iff.1 hh).1, hc, hm⟩

theorem OwnO.block {E : TypeId} {w : World} {base : Nat} {A : Option Addr} {c : Nat} {zs : List Int} (h : OwnO E w base A c zs) {n d : Nat} : ∀ k, (Value.slice A n d).ownBlock = some k → base ≤ k := by
  intro k hk
  refine (h.2.2.lt k ?_).1
  cases A with
  | none => simp [Value.ownBlock] at hk
  | some ad => simpa [Value.ownBlock] using hk

theorem OwnO.at_ {E : TypeId} {w : World} {base : Nat} {g c : Nat} {zs : List Int} (h : OwnO E w base (some ⟨g, 0, none⟩) c zs) {j : Nat} (hj : j < zs.length) :
    w.cell? ⟨g, j, none⟩ = some (.int .u8 (nth zs j)) ∧ w.frozen? ⟨g, j, none⟩ = false := by
  refine ⟨?_, h.2.2.frozenAt j⟩
  rw [h.2.2.cellAt j (by omega)]
  simp [hj, nth_get]

theorem OwnO.set_ {E : TypeId} {w : World} {base : Nat} {g c : Nat} {zs : List Int} (h : OwnO E w base (some ⟨g, 0, none⟩) c zs) (j : Nat) {x : Int} (hx : Oct x) :
    OwnO E (w.setCell ⟨g, j, none⟩ (.int .u8 x)) base (some ⟨g, 0, none⟩) c (zs.set j x) := by
  obtain ⟨hl, hf, hrow⟩ := h
  refine ⟨by simpa using hl, fun z hz => ?_, ?_⟩
  · rcases List.mem_or_eq_of_mem_set hz with h | h
    · exact hf z h
    · exact h ▸ hx
  · simpa using (hrow.stored j (.int .u8 x)).1

theorem OwnO.far {E : TypeId} {w : World} {base : Nat} {A : Option Addr} {c : Nat} {zs : List Int} (h : OwnO E w base A c zs) {p : Addr} (hp : p.block < base) (u : Value) : OwnO E (w.setCell p u) base A c zs :=
  ⟨h.1, h.2.1, ownsRow_setCell_other h.2.2 (fun e => by have := h.block _ e; omega) u⟩

theorem OwnI.far {E : TypeId} {w : World} {base : Nat} {A : Option Addr} {c : Nat} {zs : List Int} (h : OwnI E w base A c zs) {p : Addr} (hp : p.block < base) (u : Value) : OwnI E (w.setCell p u) base A c zs :=
  ⟨h.1, h.2.1, ownsRow_setCell_other h.2.2 (fun e => by have := h.block _ e; omega) u⟩

theorem Octs.append_src {w : World} {A : Option Addr} {n : Nat} {zs : List Int} (h : Octs w A n zs) {a : Addr} (e : A = some a) :
    ∀ j u, (zs.map (Value.int .u8))[j]? = some u → w.cell? (a.add j) = some u := by
  intro j u hu
  have hj : j < zs.length := by simpa using (List.getElem?_eq_some_iff.1 hu).1
  obtain ⟨b, o, e', _, hc⟩ := h.2.2.2 (by have := h.1; omega)
  rw [e'] at e
  injection e with e
  subst e
  rw [Addr.add_lit, hc j (by have := h.1; omega), nth_get hj]
  simpa [hj] using hu

theorem run_append_octs {P : Program} (w : World) (t ty E : TypeId) (ht : P.underlying t = some (.slice E)) (hi : (P.info? E).map (fun i => (i.zero, i.size, i.bytes)) = some (some (.int .u8 0), 1, 1))
    (base : Nat) (A : Option Addr) (c : Nat) (xs : List Int) (hown : OwnO E w base A c xs) (B : Option Addr) (m d : Nat) (ys : List Int) (hy : Octs w B m ys)
    (hb : xs.length + m ≤ 140737488351232) (hbase : base ≤ w.heap.size) :
    ∃ A' c' w', (Builtin.append_ #[t, t] ty #[.slice A xs.length c, .slice B m d]).run P w = .ok (.slice A' (xs ++ ys).length c') w' ∧ OwnO E w' base A' c' (xs ++ ys) ∧ w.grownBy w' (Value.slice A xs.length c).ownBlock := by
  obtain ⟨i, hi, hz0, hz1, hz2⟩ := info_parts hi
  obtain ⟨hl, hf, hrow⟩ := hown
  obtain ⟨ly, by_, fy, _⟩ := id hy
  have hff : ∀ z ∈ xs ++ ys, Oct z := fun z hz => (List.mem_append.1 hz).elim (hf z) (fy z)
  cases B with
  | none =>
    have hm : m = 0 := by
      rcases Nat.eq_zero_or_pos m with h | h
      · exact h
      · obtain ⟨b, o, e, _⟩ := hy.2.2.2 h
        cases e
    subst hm
    obtain rfl : ys = [] := List.eq_nil_of_length_eq_zero ly
    refine ⟨A, c, w, ?_, ?_, World.grownBy.refl _ _⟩
    · simpa using run_append_nothing w base t ty E i ht hi _ _ _ hrow d
    · simpa [OwnO] using ⟨hl, hf, hrow⟩
  | some ad =>
    obtain ⟨v', w', hr, h2, h3, _⟩ := run_append_own_at (P := P) w base t ty E i (.int .u8 0) 1 1 ht hi hz0 hz1 hz2 rfl (by decide) _ _ _ hrow ad m d (ys.map (Value.int .u8)) (by simp [ly]) (hy.append_src rfl) (ints_oneCell .u8 ys)
      (by unfold maxLen; omega) (by omega) hbase
    have e : ∃ A' c', v' = .slice A' (xs ++ ys).length c' := by
      rcases h2.2 with ⟨rfl, h0⟩ | ⟨g, cap, cur, rfl, _⟩
      · exact ⟨none, 0, by rw [List.length_append, ly, h0]⟩
      · exact ⟨_, cap, by rw [List.length_append, ly]⟩
    obtain ⟨A', c', rfl⟩ := e
    refine ⟨A', c', w', hr, ⟨by rw [List.length_append]; omega, hff, ?_⟩, h3⟩
    simpa [ly] using h2

/-- append, at the operation: onto a row of octets of the call's own, whatever slice comes behind. -/
theorem wpList_append_octs {P : Program} (w : World) {ops : Array Oper} {rest : List Oper} {o : Oper} {a : Act} {Q : Exit → Act → World → Prop} (hgd : o.guard = none) (s x : Operand) (t : TypeId)
    (ho : o.op = .call { callee := .builtin .append, args := #[s, x], argTypes := #[t, t] })
    (E : TypeId) (ht : P.underlying t = some (.slice E)) (hi : (P.info? E).map (fun i => (i.zero, i.size, i.bytes)) = some (some (.int .u8 0), 1, 1))
    (base : Nat) (A : Option Addr) (c : Nat) (xs : List Int) (n : Nat) (hn : n = xs.length) (hs : a.eval s = .slice A n c) (hown : OwnO E w base A c xs) (B : Option Addr) (m d : Nat) (ys : List Int) (hx : a.eval x = .slice B m d) (hy : Octs w B m ys)
    (hb : xs.length + m ≤ 140737488351232) (hbase : base ≤ w.heap.size)
    (h : ∀ A' c' w', OwnO E w' base A' c' (xs ++ ys) → w.grownBy w' (Value.slice A n c).ownBlock → wpList P ops Q rest (a.put o.dst (.slice A' (xs ++ ys).length c')) w') :
    wpList P ops Q (o :: rest) a w := by
  subst hn
  refine wpList_plain hgd fun K hK => ?_
  obtain ⟨A', c', w', hr, h2, h3⟩ := run_append_octs (P := P) w t o.type E ht hi base A c xs hown B m d ys hy hb hbase
  unfold Oper.wp execOp
  simp only [ho, resolve, invoke, builtin, Sem.run_bind, Sem.run_pure, Result.andThen_ok, List.map_toArray, List.map_cons, List.map_nil, hs, hx, hr]
  exact hK _ _ (h A' c' w' h2 h3)

/-- What 'string(b)' is. -/
theorem Octs.convert {P : Program} {w : World} {A : Option Addr} {n : Nat} {zs : List Int} (h : Octs w A n zs) (c : Nat) (src e dst : TypeId)
    (hs : P.underlying src = some (.slice e)) (he : P.underlying e = some (.int .u8)) (hd : P.underlying dst = some .string) :
    (Go.convert src dst (.slice A n c)).run P w = .ok (.string (strOfNums zs)) w := by
  rcases Nat.eq_zero_or_pos n with hn | hn
  · subst hn
    obtain rfl : zs = [] := List.eq_nil_of_length_eq_zero h.1
    exact run_convert_bytes_zero w src e hs he A c dst hd
  · obtain ⟨b, o, rfl, _, hc⟩ := h.2.2.2 hn
    exact run_convert_bytes_arg (P := P) w src e hs he b o n c zs h.1 (fun i hi => by simpa [nth] using hc i hi) dst hd

/-- 'string(b)', at the operation. -/
theorem wpList_octs {P : Program} (w : World) {ops : Array Oper} {rest : List Oper} {o : Oper} {a : Act} {Q : Exit → Act → World → Prop} (hgd : o.guard = none) (x : Operand) (src dst : TypeId)
    (ho : o.op = .convert src dst x) (e : TypeId) (hs : P.underlying src = some (.slice e)) (he : P.underlying e = some (.int .u8)) (hd : P.underlying dst = some .string)
    (A : Option Addr) (n c : Nat) (zs : List Int) (hx : a.eval x = .slice A n c) (hz : Octs w A n zs)
    (h : wpList P ops Q rest (a.put o.dst (.string (strOfNums zs))) w) : wpList P ops Q (o :: rest) a w := by
  refine wpList_plain hgd fun K hK => ?_
  unfold Oper.wp execOp
  simp only [ho, hx, Sem.run_bind, Sem.run_pure, Result.andThen_ok, hz.convert (P := P) c src e dst hs he hd]
  exact hK _ _ h

theorem bytes_inj {xs ys : List Int} (hx : ∀ z ∈ xs, Oct z) (hy : ∀ z ∈ ys, Oct z) (h : Lib.bytesOf xs = Lib.bytesOf ys) : xs = ys := by
  induction xs generalizing ys with
  | nil => cases ys with | nil => rfl | cons y ys => simp [Lib.bytesOf] at h
  | cons x xs ih =>
    cases ys with
    | nil => simp [Lib.bytesOf] at h
    | cons y ys =>
      simp only [Lib.bytesOf, List.map_cons, List.cons.injEq] at h
      have h1 := hx x (by simp)
      have h2 := hy y (by simp)
      have e : x = y := by
        have h0 := congrArg UInt8.toNat h.1
        simp only [UInt8.toNat_ofNat'] at h0
        unfold Oct at h1 h2
        omega
      rw [e, ih (fun z hz => hx z (by simp [hz])) (fun z hz => hy z (by simp [hz])) h.2]

/-- Are two lists the same? (A word that the walk does not open.) -/
def sameB (xs ys : List Int) : Bool := decide (xs = ys)

theorem sameB_refl (xs : List Int) : sameB xs xs = true := decide_eq_true rfl

theorem bytes_same {xs ys : List Int} (hx : ∀ z ∈ xs, Oct z) (hy : ∀ z ∈ ys, Oct z) : (Lib.bytesOf xs == Lib.bytesOf ys) = sameB xs ys := by
  unfold sameB
  by_cases h : xs = ys
  · simp [h]
  · rw [decide_eq_false h, beq_eq_false_iff_ne]
    exact fun e => h (bytes_inj hx hy e)

theorem str_same {xs ys : List Int} (hx : ∀ z ∈ xs, Oct z) (hy : ∀ z ∈ ys, Oct z) : ((strOfNums xs).toList == (strOfNums ys).toList) = sameB xs ys := by
  rw [Lib.strOfNums_toList, Lib.strOfNums_toList, bytes_same hx hy]

theorem sameB_len {xs ys : List Int} (h : xs.length ≠ ys.length) : sameB xs ys = false := by
  unfold sameB
  exact decide_eq_false (fun e => h (by rw [e]))

theorem sameB_at {xs ys : List Int} (k : Nat) (h : nth xs k ≠ nth ys k) : sameB xs ys = false := by
  unfold sameB
  exact decide_eq_false (fun e => h (by rw [e]))

theorem sameB_all {xs ys : List Int} {n : Nat} (h1 : xs.length = n) (h2 : ys.length = n) (h : ∀ j, j < n → nth xs j = nth ys j) : sameB xs ys = true := by
  unfold sameB
  refine decide_eq_true (List.ext_getElem (by omega) fun i hi hj => ?_)
  have := h i (by omega)
  simpa [nth, List.getD, hi, hj] using this

/-- A row of bools that the call has made itself. -/
def OwnB (E : TypeId) (w : World) (base : Nat) (A : Option Addr) (c : Nat) (zs : List Bool) : Prop :=
  w.ownsRow base E 1 (.slice A zs.length c) zs.length (zs.map Value.bool)

/-- The j-th bool of a list: a word that simp does not open. -/
def bth (zs : List Bool) (j : Nat) : Bool := zs.getD j false
theorem bth_get {zs : List Bool} {j : Nat} (h : j < zs.length) : bth zs j = zs[j] := by simp [bth, List.getD, h]

theorem OwnB.at_ {E : TypeId} {w : World} {base : Nat} {g c : Nat} {zs : List Bool} (h : OwnB E w base (some ⟨g, 0, none⟩) c zs) {j : Nat} (hj : j < zs.length) :
    w.cell? ⟨g, j, none⟩ = some (.bool (bth zs j)) ∧ w.frozen? ⟨g, j, none⟩ = false := by
  refine ⟨?_, h.frozenAt j⟩
  rw [h.cellAt j (by omega)]
  simp [hj, bth_get]

theorem OwnB.set_ {E : TypeId} {w : World} {base : Nat} {g c : Nat} {zs : List Bool} (h : OwnB E w base (some ⟨g, 0, none⟩) c zs) (j : Nat) (x : Bool) :
    OwnB E (w.setCell ⟨g, j, none⟩ (.bool x)) base (some ⟨g, 0, none⟩) c (zs.set j x) := by
  simpa [OwnB] using (h.stored j (.bool x)).1

theorem OwnB.falses {E : TypeId} {w : World} {base n : Nat} {g c : Nat} (h : w.ownsRow base E 1 (.slice (some ⟨g, 0, none⟩) n c) n (madeCells (Value.bool false).cells (n * 1)).toList) :
    OwnB E w base (some ⟨g, 0, none⟩) c (List.replicate n false) := by
  have e : (madeCells (Value.bool false).cells (n * 1)).toList = List.replicate n (Value.bool false) := by
    rw [Nat.mul_one]; exact toList_madeCells_one _ _
  rw [e] at h
  simpa [OwnB, List.map_replicate] using h

/-- A value is handed back; what was there is as it was. -/
def RetB (v : Value) (w : World) (e : Ending) (w' : World) : Prop := e = .returned v ∧ Below w.heap.size w w'

theorem RetB.of {v : Value} {w w' : World} {e : Ending} (he : e = .returned v) (hb : Below w.heap.size w w') : RetB v w e w' := ⟨he, hb⟩

theorem below_alloc {w w1 : World} (h : Below w.heap.size w w1) (o : Obj) : Below w.heap.size w (w1.alloc o) := h.alloc h.size o
theorem below_drew {w w1 : World} (h : Below w.heap.size w w1) : Below w.heap.size w w1.drew := h.drew

end Go.Proofs.Ytpfnoohcilefhaa

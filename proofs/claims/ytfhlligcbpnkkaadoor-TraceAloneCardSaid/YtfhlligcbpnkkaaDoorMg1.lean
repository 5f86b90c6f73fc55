import Derived.Test.YtfhlligcbpnkkaaDoorMg0
import Derived.Shelf.Bytes.SlSmallAll
import Derived.OrdersHeld
import Derived.Deep.RegionHeld3

/-
  Plain words and lemmas for walks over slices of octets, over no program: a slice value that reads as a list of numbers 0 to 255, a row of octets of the call's own, how both are kept, and what a conversion to a string makes of them.
-/
namespace Go.Proofs.YtfhlligcbpnkkaaDoor
open Go.RowKit

/-- It is an octet. -/
def Oct (z : Int) : Prop := 0 ≤ z ∧ z ≤ 255

theorem oct_of_wf {z : Int} (h : (Lit.int .u8 z).wf = true) : Oct z := by
  have h1 : IntKind.u8.min = 0 := rfl
  have h2 : IntKind.u8.max = 255 := rfl
  simp only [Lit.wf, Bool.and_eq_true, decide_eq_true_eq] at h
  unfold Oct
  omega

/-- The slice whose cells begin at A, of length n, reads as the octets zs, and lies in blocks that are there. -/
def Octs (w : World) (A : Option Addr) (n : Nat) (zs : List Int) : Prop :=
  zs.length = n ∧ n ≤ 140737488351232 ∧ (∀ z ∈ zs, Oct z) ∧
    (0 < n → ∃ b o, A = some ⟨b, o, none⟩ ∧ b < w.heap.size ∧ ∀ j, j < n → w.cell? ⟨b, o + j, none⟩ = some (.int .u8 (nth zs j)))

/-- A row of octets that the call has made itself. -/
def OwnO (E : TypeId) (w : World) (base : Nat) (A : Option Addr) (c : Nat) (zs : List Int) : Prop :=
  zs.length ≤ 140737488351232 ∧ (∀ z ∈ zs, Oct z) ∧ w.ownsRow base E 1 (.slice A zs.length c) zs.length (zs.map (Value.int .u8))

theorem Octs.oct {w : World} {A : Option Addr} {n : Nat} {zs : List Int} (h : Octs w A n zs) (j : Nat) : Oct (nth zs j) := by
  rcases Nat.lt_or_ge j zs.length with hj | hj
  · rw [nth_get hj]; exact h.2.2.1 _ (List.getElem_mem hj)
  · simp [nth, List.getD, List.getElem?_eq_none hj, Oct]

theorem Octs.keep {w w' : World} {A : Option Addr} {n : Nat} {zs : List Int} (h : Octs w A n zs) (hs : w.heap.size ≤ w'.heap.size)
    (hk : ∀ p : Addr, p.block < w.heap.size → w'.cell? p = w.cell? p) : Octs w' A n zs :=
  ⟨h.1, h.2.1, h.2.2.1, fun hn => by
    obtain ⟨b, o, e, hb, hc⟩ := h.2.2.2 hn
    exact ⟨b, o, e, by omega, fun j hj => (hk ⟨b, o + j, none⟩ hb).trans (hc j hj)⟩⟩

theorem Octs.below {w w' : World} {A : Option Addr} {n : Nat} {zs : List Int} (h : Octs w A n zs) (hb : Below w.heap.size w w') : Octs w' A n zs :=
  h.keep hb.size fun _ hp => hb.cell hp

theorem Octs.nil_ (w : World) (A : Option Addr) : Octs w A 0 [] := ⟨rfl, by omega, by simp, fun h => by omega⟩

theorem OwnO.octs {E : TypeId} {w : World} {base : Nat} {A : Option Addr} {c : Nat} {zs : List Int} (h : OwnO E w base A c zs) : Octs w A zs.length zs := by
  obtain ⟨hl, hf, hown⟩ := h
  refine ⟨rfl, hl, hf, fun hn => ?_⟩
  obtain ⟨g, cap, hv, _, hlt⟩ := hown.form hn
  injection hv with hA _ _
  subst hA
  refine ⟨g, 0, rfl, hlt, fun j hj => ?_⟩
  have hc := hown.cells (g := g) rfl j (.int .u8 (nth zs j)) (by simp [List.getElem?_eq_getElem hj, nth])
  simpa [Addr.add_lit] using hc

theorem OwnO.below {E : TypeId} {w w' : World} {base : Nat} {A : Option Addr} {c : Nat} {zs : List Int} (h : OwnO E w base A c zs) (hb : Below w.heap.size w w') : OwnO E w' base A c zs :=
  ⟨h.1, h.2.1, h.2.2.kept (row := none) ⟨hb.os, hb.tape, hb.output, hb.size, fun k hk _ => hb.block k hk⟩ (by cases (Value.slice A zs.length c).ownBlock <;> simp)⟩

theorem OwnO.base {E : TypeId} {w : World} {base base' : Nat} {A : Option Addr} {c : Nat} {zs : List Int} (h : OwnO E w base A c zs) (hb : base' ≤ base) : OwnO E w base' A c zs := by
  obtain ⟨hl, hf, h1, h2⟩ := h
  refine ⟨hl, hf, h1, ?_⟩
  rcases h2 with h2 | ⟨g, cap, cur, e, hg, r⟩
  · exact .inl h2
  · exact .inr ⟨g, cap, cur, e, by omega, r⟩

theorem OwnO.nil_ (E : TypeId) (w : World) (base : Nat) : OwnO E w base none 0 [] := ⟨by simp, by simp, World.ownsRow_nil w base E 1⟩

theorem OwnO.made (E : TypeId) (base : Nat) (w : World) (hb : base ≤ w.heap.size := by exact Nat.le_refl _) : OwnO E (w.alloc (.cells #[] E)) base (some ⟨w.heap.size, 0, none⟩) 0 [] :=
  ⟨by simp, by simp, World.ownsRow_made w #[] 0 hb (by unfold maxLen; omega) (by simp)⟩

theorem OwnO.form {E : TypeId} {w : World} {base : Nat} {A : Option Addr} {c : Nat} {zs : List Int} (h : OwnO E w base A c zs) (hn : 0 < zs.length) :
    ∃ g, A = some ⟨g, 0, none⟩ ∧ base ≤ g ∧ g < w.heap.size ∧ zs.length ≤ c ∧ c ≤ maxLen := by
  obtain ⟨hl, hf, hrow⟩ := h
  rcases hrow.2 with ⟨h1, h2⟩ | ⟨g, cap, cur, e, hb, hh, hc, hm, _⟩
  · omega
  · injection e with e1 e2 e3
    subst e1 e3
    exact ⟨g, rfl, hb, (Array.getElem?_eq_some_iff.1 hh).1, hc, hm⟩

theorem OwnO.block {E : TypeId} {w : World} {base : Nat} {A : Option Addr} {c : Nat} {zs : List Int} (h : OwnO E w base A c zs) {n d : Nat} : ∀ k, (Value.slice A n d).ownBlock = some k → base ≤ k := by
  intro k hk
  refine (h.2.2.lt k ?_).1
  cases A with
  | none => simp [Value.ownBlock] at hk
  | some ad => simpa [Value.ownBlock] using hk

theorem OwnO.at_ {E : TypeId} {w : World} {base : Nat} {g c : Nat} {zs : List Int} (h : OwnO E w base (some ⟨g, 0, none⟩) c zs) {j : Nat} (hj : j < zs.length) :
    w.cell? ⟨g, j, none⟩ = some (.int .u8 (nth zs j)) ∧ w.frozen? ⟨g, j, none⟩ = false := by
  refine ⟨?_, h.2.2.frozenAt j⟩
  rw [h.2.2.cellAt j (by omega)]
  simp [hj, nth_get]

theorem OwnO.set_ {E : TypeId} {w : World} {base : Nat} {g c : Nat} {zs : List Int} (h : OwnO E w base (some ⟨g, 0, none⟩) c zs) (j : Nat) {x : Int} (hx : Oct x) :
    OwnO E (w.setCell ⟨g, j, none⟩ (.int .u8 x)) base (some ⟨g, 0, none⟩) c (zs.set j x) := by
  obtain ⟨hl, hf, hrow⟩ := h
  refine ⟨by simpa using hl, fun z hz => ?_, ?_⟩
  · rcases List.mem_or_eq_of_mem_set hz with h | h
    · exact hf z h
    · exact h ▸ hx
  · simpa using (hrow.stored j (.int .u8 x)).1

theorem OwnO.far {E : TypeId} {w : World} {base : Nat} {A : Option Addr} {c : Nat} {zs : List Int} (h : OwnO E w base A c zs) {p : Addr} (hp : p.block < base) (u : Value) : OwnO E (w.setCell p u) base A c zs :=
  ⟨h.1, h.2.1, ownsRow_setCell_other h.2.2 (fun e => by have := h.block _ e; omega) u⟩

theorem OwnI.far {E : TypeId} {w : World} {base : Nat} {A : Option Addr} {c : Nat} {zs : List Int} (h : OwnI E w base A c zs) {p : Addr} (hp : p.block < base) (u : Value) : OwnI E (w.setCell p u) base A c zs :=
  ⟨h.1, h.2.1, ownsRow_setCell_other h.2.2 (fun e => by have := h.block _ e; omega) u⟩

theorem Octs.append_src {w : World} {A : Option Addr} {n : Nat} {zs : List Int} (h : Octs w A n zs) {a : Addr} (e : A = some a) :
    ∀ j u, (zs.map (Value.int .u8))[j]? = some u → w.cell? (a.add j) = some u := by
  intro j u hu
  have hj : j < zs.length := by simpa using (List.getElem?_eq_some_iff.1 hu).1
  obtain ⟨b, o, e', _, hc⟩ := h.2.2.2 (by have := h.1; omega)
  rw [e'] at e
  injection e with e
  subst e
  rw [Addr.add_lit, hc j (by have := h.1; omega), nth_get hj]
  simpa [hj] using hu

theorem run_append_octs {P : Program} (w : World) (t ty E : TypeId) (ht : P.underlying t = some (.slice E)) (hi : (P.info? E).map (fun i => (i.zero, i.size, i.bytes)) = some (some (.int .u8 0), 1, 1))
    (base : Nat) (A : Option Addr) (c : Nat) (xs : List Int) (hown : OwnO E w base A c xs) (B : Option Addr) (m d : Nat) (ys : List Int) (hy : Octs w B m ys)
    (hb : xs.length + m ≤ 140737488351232) (hbase : base ≤ w.heap.size) :
    ∃ A' c' w', (Builtin.append_ #[t, t] ty #[.slice A xs.length c, .slice B m d]).run P w = .ok (.slice A' (xs ++ ys).length c') w' ∧ OwnO E w' base A' c' (xs ++ ys) ∧ w.grownBy w' (Value.slice A xs.length c).ownBlock := by
  obtain ⟨i, hi, hz0, hz1, hz2⟩ := info_parts hi
  obtain ⟨hl, hf, hrow⟩ := hown
  obtain ⟨ly, by_, fy, _⟩ := id hy
  have hff : ∀ z ∈ xs ++ ys, Oct z := fun z hz => (List.mem_append.1 hz).elim (hf z) (fy z)
  cases B with
  | none =>
    have hm : m = 0 := by
      rcases Nat.eq_zero_or_pos m with h | h
      · exact h
      · obtain ⟨b, o, e, _⟩ := hy.2.2.2 h
        cases e
    subst hm
    obtain rfl : ys = [] := List.eq_nil_of_length_eq_zero ly
    refine ⟨A, c, w, ?_, ?_, World.grownBy.refl _ _⟩
    · simpa using run_append_nothing w base t ty E i ht hi _ _ _ hrow d
    · simpa [OwnO] using ⟨hl, hf, hrow⟩
  | some ad =>
    obtain ⟨v', w', hr, h2, h3, _⟩ := run_append_own_at (P := P) w base t ty E i (.int .u8 0) 1 1 ht hi hz0 hz1 hz2 rfl (by decide) _ _ _ hrow ad m d (ys.map (Value.int .u8)) (by simp [ly]) (hy.append_src rfl) (ints_oneCell .u8 ys)
      (by unfold maxLen; omega) (by omega) hbase
    have e : ∃ A' c', v' = .slice A' (xs ++ ys).length c' := by
      rcases h2.2 with ⟨rfl, h0⟩ | ⟨g, cap, cur, rfl, _⟩
      · exact ⟨none, 0, by rw [List.length_append, ly, h0]⟩
      · exact ⟨_, cap, by rw [List.length_append, ly]⟩
    obtain ⟨A', c', rfl⟩ := e
    refine ⟨A', c', w', hr, ⟨by rw [List.length_append]; omega, hff, ?_⟩, h3⟩
    simpa [ly] using h2

/-- append, at the operation: onto a row of octets of the call's own, whatever slice comes behind. -/
theorem wpList_append_octs {P : Program} (w : World) {ops : Array Oper} {rest : List Oper} {o : Oper} {a : Act} {Q : Exit → Act → World → Prop} (hgd : o.guard = none) (s x : Operand) (t : TypeId)
    (ho : o.op = .call { callee := .builtin .append, args := #[s, x], argTypes := #[t, t] })
    (E : TypeId) (ht : P.underlying t = some (.slice E)) (hi : (P.info? E).map (fun i => (i.zero, i.size, i.bytes)) = some (some (.int .u8 0), 1, 1))
    (base : Nat) (A : Option Addr) (c : Nat) (xs : List Int) (n : Nat) (hn : n = xs.length) (hs : a.eval s = .slice A n c) (hown : OwnO E w base A c xs) (B : Option Addr) (m d : Nat) (ys : List Int) (hx : a.eval x = .slice B m d) (hy : Octs w B m ys)
    (hb : xs.length + m ≤ 140737488351232) (hbase : base ≤ w.heap.size)
    (h : ∀ A' c' w', OwnO E w' base A' c' (xs ++ ys) → w.grownBy w' (Value.slice A n c).ownBlock → wpList P ops Q rest (a.put o.dst (.slice A' (xs ++ ys).length c')) w') :
    wpList P ops Q (o :: rest) a w := by
  subst hn
  refine wpList_plain hgd fun K hK => ?_
  obtain ⟨A', c', w', hr, h2, h3⟩ := run_append_octs (P := P) w t o.type E ht hi base A c xs hown B m d ys hy hb hbase
  unfold Oper.wp execOp
  simp only [ho, resolve, invoke, builtin, Sem.run_bind, Sem.run_pure, Result.andThen_ok, List.map_toArray, List.map_cons, List.map_nil, hs, hx, hr]
  exact hK _ _ (h A' c' w' h2 h3)

/-- What 'string(b)' is. -/
theorem Octs.convert {P : Program} {w : World} {A : Option Addr} {n : Nat} {zs : List Int} (h : Octs w A n zs) (c : Nat) (src e dst : TypeId)
    (hs : P.underlying src = some (.slice e)) (he : P.underlying e = some (.int .u8)) (hd : P.underlying dst = some .string) :
    (Go.convert src dst (.slice A n c)).run P w = .ok (.string (strOfNums zs)) w := by
  rcases Nat.eq_zero_or_pos n with hn | hn
  · subst hn
    obtain rfl : zs = [] := List.eq_nil_of_length_eq_zero h.1
    exact run_convert_bytes_zero w src e hs he A c dst hd
  · obtain ⟨b, o, rfl, _, hc⟩ := h.2.2.2 hn
    exact run_convert_bytes_arg (P := P) w src e hs he b o n c zs h.1 (fun i hi => by simpa [nth] using hc i hi) dst hd

/-- 'string(b)', at the operation. -/
theorem wpList_octs {P : Program} (w : World) {ops : Array Oper} {rest : List Oper} {o : Oper} {a : Act} {Q : Exit → Act → World → Prop} (hgd : o.guard = none) (x : Operand) (src dst : TypeId)
    (ho : o.op = .convert src dst x) (e : TypeId) (hs : P.underlying src = some (.slice e)) (he : P.underlying e = some (.int .u8)) (hd : P.underlying dst = some .string)
    (A : Option Addr) (n c : Nat) (zs : List Int) (hx : a.eval x = .slice A n c) (hz : Octs w A n zs)
    (h : wpList P ops Q rest (a.put o.dst (.string (strOfNums zs))) w) : wpList P ops Q (o :: rest) a w := by
  refine wpList_plain hgd fun K hK => ?_
  unfold Oper.wp execOp
  simp only [ho, hx, Sem.run_bind, Sem.run_pure, Result.andThen_ok, hz.convert (P := P) c src e dst hs he hd]
  exact hK _ _ h

theorem bytes_inj {xs ys : List Int} (hx : ∀ z ∈ xs, Oct z) (hy : ∀ z ∈ ys, Oct z) (h : Lib.bytesOf xs = Lib.bytesOf ys) : xs = ys := by
  induction xs generalizing ys with
  | nil => cases ys with | nil => rfl | cons y ys => simp [Lib.bytesOf] at h
  | cons x xs ih =>
    cases ys with
    | nil => simp [Lib.bytesOf] at h
    | cons y ys =>
      simp only [Lib.bytesOf, List.map_cons, List.cons.injEq] at h
      have h1 := hx x (by simp)
      have h2 := hy y (by simp)
      have e : x = y := by
        have h0 := congrArg UInt8.toNat h.1
        simp only [UInt8.toNat_ofNat'] at h0
        unfold Oct at h1 h2
        omega
      rw [e, ih (fun z hz => hx z (by simp [hz])) (fun z hz => hy z (by simp [hz])) h.2]

/-- Are two lists the same? (A word that the walk does not open.) -/
def sameB (xs ys : List Int) : Bool := decide (xs = ys)

theorem sameB_refl (xs : List Int) : sameB xs xs = true := decide_eq_true rfl

theorem bytes_same {xs ys : List Int} (hx : ∀ z ∈ xs, Oct z) (hy : ∀ z ∈ ys, Oct z) : (Lib.bytesOf xs == Lib.bytesOf ys) = sameB xs ys := by
  unfold sameB
  by_cases h : xs = ys
  · simp [h]
  · rw [decide_eq_false h, beq_eq_false_iff_ne]
    exact fun e => h (bytes_inj hx hy e)

theorem str_same {xs ys : List Int} (hx : ∀ z ∈ xs, Oct z) (hy : ∀ z ∈ ys, Oct z) : ((strOfNums xs).toList == (strOfNums ys).toList) = sameB xs ys := by
  rw [Lib.strOfNums_toList, Lib.strOfNums_toList, bytes_same hx hy]

theorem sameB_len {xs ys : List Int} (h : xs.length ≠ ys.length) : sameB xs ys = false := by
  unfold sameB
  exact decide_eq_false (fun e => h (by rw [e]))

theorem sameB_at {xs ys : List Int} (k : Nat) (h : nth xs k ≠ nth ys k) : sameB xs ys = false := by
  unfold sameB
  exact decide_eq_false (fun e => h (by rw [e]))

theorem sameB_all {xs ys : List Int} {n : Nat} (h1 : xs.length = n) (h2 : ys.length = n) (h : ∀ j, j < n → nth xs j = nth ys j) : sameB xs ys = true := by
  unfold sameB
  refine decide_eq_true (List.ext_getElem (by omega) fun i hi hj => ?_)
  have := h i (by omega)
  simpa [nth, List.getD, hi, hj] using this

/-- A row of bools that the call has made itself. -/
def OwnB (E : TypeId) (w : World) (base : Nat) (A : Option Addr) (c : Nat) (zs : List Bool) : Prop :=
  w.ownsRow base E 1 (.slice A zs.length c) zs.length (zs.map Value.bool)

/-- The j-th bool of a list: a word that simp does not open. -/
def bth (zs : List Bool) (j : Nat) : Bool := zs.getD j false
theorem bth_get {zs : List Bool} {j : Nat} (h : j < zs.length) : bth zs j = zs[j] := by simp [bth, List.getD, h]

theorem OwnB.at_ {E : TypeId} {w : World} {base : Nat} {g c : Nat} {zs : List Bool} (h : OwnB E w base (some ⟨g, 0, none⟩) c zs) {j : Nat} (hj : j < zs.length) :
    w.cell? ⟨g, j, none⟩ = some (.bool (bth zs j)) ∧ w.frozen? ⟨g, j, none⟩ = false := by
  refine ⟨?_, h.frozenAt j⟩
  rw [h.cellAt j (by omega)]
  simp [hj, bth_get]

theorem OwnB.set_ {E : TypeId} {w : World} {base : Nat} {g c : Nat} {zs : List Bool} (h : OwnB E w base (some ⟨g, 0, none⟩) c zs) (j : Nat) (x : Bool) :
    OwnB E (w.setCell ⟨g, j, none⟩ (.bool x)) base (some ⟨g, 0, none⟩) c (zs.set j x) := by
  simpa [OwnB] using (h.stored j (.bool x)).1

theorem OwnB.falses {E : TypeId} {w : World} {base n : Nat} {g c : Nat} (h : w.ownsRow base E 1 (.slice (some ⟨g, 0, none⟩) n c) n (madeCells (Value.bool false).cells (n * 1)).toList) :
    OwnB E w base (some ⟨g, 0, none⟩) c (List.replicate n false) := by
  have e : (madeCells (Value.bool false).cells (n * 1)).toList = List.replicate n (Value.bool false) := by
    rw [Nat.mul_one]; exact toList_madeCells_one _ _
  rw [e] at h
  simpa [OwnB, List.map_replicate] using h

/-- A value is handed back; what was there is as it was. -/
def RetB (v : Value) (w : World) (e : Ending) (w' : World) : Prop := e = .returned v ∧ Below w.heap.size w w'

theorem RetB.of {v : Value} {w w' : World} {e : Ending} (he : e = .returned v) (hb : Below w.heap.size w w') : RetB v w e w' := ⟨he, hb⟩

theorem below_alloc {w w1 : World} (h : Below w.heap.size w w1) (o : Obj) : Below w.heap.size w (w1.alloc o) := h.alloc h.size o
theorem below_drew {w w1 : World} (h : Below w.heap.size w w1) : Below w.heap.size w w1.drew := h.drew

end Go.Proofs.YtfhlligcbpnkkaaDoor

/-
  Small lemmas over no program that stage 3 needed, gathered for later stages (their copies in tpl03 stand as they are: never import both).
-/
namespace Go.Proofs.YtfhlligcbpnkkaaDoor
open Go.RowKit

theorem grown_set {w : World} {g i : Nat} (u : Value) : w.grownBy (w.setCell ⟨g, i, none⟩ u) (some g) :=
  ⟨rfl, rfl, rfl, by simp [World.setCell], fun k _ hne => Below.heap_setCell w _ u k (by intro e; exact hne (by rw [e]))⟩

theorem Bk.grown {w w' : World} {g : Nat} {t : TypeId} {cs : Array Value} {row : Option Nat} (h : Bk w g t cs) (hb : w.grownBy w' row) (hg : some g ≠ row) : Bk w' g t cs := (hb.block g h.lt hg).trans h

/-- A struct of dice, and the place of the result, as they lie at the beginning. -/
theorem lies2 (w : World) (x y : Array Value) (t u : TypeId) :
    Bk ((w.alloc (.cells x t)).alloc (.cells y u)) w.heap.size t x ∧ Bk ((w.alloc (.cells x t)).alloc (.cells y u)) (w.heap.size + 1) u y ∧ Below w.heap.size w ((w.alloc (.cells x t)).alloc (.cells y u)) := by
  refine ⟨(Bk.new w t x).alloc _, ?_, ((Below.refl w.heap.size w).alloc (Nat.le_refl _) _).alloc (by simp) _⟩
  have := Bk.new (w.alloc (.cells x t)) u y
  simpa using this

section
variable {w : World} {g : Nat} {t : TypeId} {u v : Value}
theorem Bk.one {w : World} {g : Nat} {t : TypeId} {u : Value} (h : Bk w g t #[u]) : w.cell? ⟨g, 0, none⟩ = some u := (h.cell 0).trans rfl
theorem Bk.c0 (h : Bk w g t #[u, v]) : w.cell? ⟨g, 0, none⟩ = some u := (h.cell 0).trans rfl
theorem Bk.c1 (h : Bk w g t #[u, v]) : w.cell? ⟨g, 1, none⟩ = some v := (h.cell 1).trans rfl
end

theorem nth_beyond {bs : List Int} {p : Nat} (h : bs.length ≤ p) : nth bs p = 0 := by
  simp [nth, List.getD, List.getElem?_eq_none h]

theorem below_drewN {B : Nat} {a w : World} (h : Below B a w) (n : Nat) : Below B a (w.drewN n) := ⟨h.os, h.tape, h.output, h.size, h.block⟩

theorem size_alloc (w : World) (o : Obj) : (w.alloc o).heap.size = w.heap.size + 1 := by simp

theorem octs2 {w : World} {g : Nat} {t : TypeId} {a b : Int} (h : Bk w g t #[.int .u8 a, .int .u8 b]) (ha : Oct a) (hb : Oct b) : Octs w (some ⟨g, 0, none⟩) 2 [a, b] := by
  refine ⟨rfl, by omega, by simp [ha, hb], fun _ => ⟨g, 0, rfl, h.lt, fun j hj => ?_⟩⟩
  rw [Nat.zero_add, h.cell]
  match j, hj with
  | 0, _ => rfl
  | 1, _ => rfl

theorem ints3 {w : World} {g : Nat} {t : TypeId} {a b c : Int} (h : Bk w g t #[.int .i64 a, .int .i64 b, .int .i64 c]) (ha : Fit a) (hb : Fit b) (hc : Fit c) : Ints w (some ⟨g, 0, none⟩) 3 [a, b, c] := by
  refine ⟨rfl, by omega, by simp [ha, hb, hc], fun _ => ⟨g, 0, rfl, h.lt, fun j hj => ?_⟩⟩
  rw [Nat.zero_add, h.cell]
  match j, hj with
  | 0, _ => rfl
  | 1, _ => rfl
  | 2, _ => rfl

theorem ints1 (w : World) (E : TypeId) {x : Int} (hx : Fit x) : Ints (w.alloc (.cells #[.int .i64 x] E)) (some ⟨w.heap.size, 0, none⟩) 1 [x] := by
  refine ⟨rfl, by omega, fun z hz => by rw [List.mem_singleton.1 hz]; exact hx, fun _ => ⟨w.heap.size, 0, rfl, by simp, fun j hj => ?_⟩⟩
  obtain rfl : j = 0 := by omega
  rw [World.cell?_alloc_at _ _ _ _ rfl]
  rfl

theorem fit0 : Fit 0 := by unfold Fit; omega

theorem OwnI.zeros {E : TypeId} {w : World} {base n : Nat} {g c : Nat} (hn : n * 8 ≤ 140737488351232) (h : w.ownsRow base E 1 (.slice (some ⟨g, 0, none⟩) n c) n (madeCells (Value.int .i64 0).cells (n * 1)).toList) :
    OwnI E w base (some ⟨g, 0, none⟩) c (List.replicate n 0) := by
  refine ⟨by simpa using hn, fun z hz => ?_, ?_⟩
  · rw [List.eq_of_mem_replicate hz]; exact fit0
  · have e : (madeCells (Value.int .i64 0).cells (n * 1)).toList = List.replicate n (Value.int .i64 0) := by
      rw [Nat.mul_one]; exact toList_madeCells_one _ _
    rw [e] at h
    simpa [List.map_replicate] using h

/-- Octets stay where a cell is written that is no octet. -/
theorem Octs.apart {w : World} {A : Option Addr} {n : Nat} {bs : List Int} (h : Octs w A n bs) {p : Addr} {v : Value} (hc : w.cell? p = some v) (hv : ∀ z, v ≠ .int .u8 z) (u : Value) : Octs (w.setCell p u) A n bs :=
  ⟨h.1, h.2.1, h.2.2.1, fun hn => by
    obtain ⟨b, o, e, hb, hcell⟩ := h.2.2.2 hn
    refine ⟨b, o, e, by simpa [World.setCell] using hb, fun j hj => (World.cell?_setCell_other w _ _ _ ?_).trans (hcell j hj)⟩
    rintro rfl
    rw [hcell j hj] at hc
    injection hc with hc
    exact hv _ hc.symm⟩

theorem OwnI.apart {E : TypeId} {w : World} {base g : Nat} {c : Nat} {zs : List Int} (h : OwnI E w base (some ⟨g, 0, none⟩) c zs) {p : Addr} (hp : g ≠ p.block) (u : Value) : OwnI E (w.setCell p u) base (some ⟨g, 0, none⟩) c zs :=
  ⟨h.1, h.2.1, ownsRow_setCell_other h.2.2 (by simpa [Value.ownBlock] using hp) u⟩

theorem OwnI.lt {E : TypeId} {w : World} {base g : Nat} {c : Nat} {zs : List Int} (h : OwnI E w base (some ⟨g, 0, none⟩) c zs) : g < w.heap.size := by
  rcases h.2.2.2 with ⟨h1, -⟩ | ⟨g', cap, cur, e, -, hh, -⟩
  · simp at h1
  · injection e with e1 _ _
    simp at e1
    subst e1
    exact (Array.getElem?_eq_some_iff.1 hh).1

theorem rows_ne {E E' : TypeId} {w : World} {b b' : Nat} {A A' : Option Addr} {c c' : Nat} {xs ys : List Int} (h : OwnO E w b A c xs) (h' : OwnI E' w b' A' c' ys) (hne : E ≠ E') {n n' d d' : Nat} : (Value.slice A n d).ownBlock = none ∨ (Value.slice A n d).ownBlock ≠ (Value.slice A' n' d').ownBlock := by
  rcases h.2.2.2 with ⟨e, -⟩ | ⟨g, cap, cur, e, -, hh, -⟩
  · injection e with e _ _
    subst e
    exact .inl (by simp [Value.ownBlock])
  · injection e with e _ _
    subst e
    refine .inr ?_
    rcases h'.2.2.2 with ⟨e', -⟩ | ⟨g', cap', cur', e', -, hh', -⟩
    · injection e' with e' _ _
      subst e'
      simp [Value.ownBlock]
    · injection e' with e' _ _
      subst e'
      simp [Value.ownBlock]
      rintro rfl
      rw [hh] at hh'
      simp at hh'
      exact hne hh'.2

theorem ext_nth {xs ys : List Int} (hl : xs.length = ys.length) (h : ∀ i, i < xs.length → nth xs i = nth ys i) : xs = ys := by
  refine List.ext_getElem hl fun i h1 h2 => ?_
  have := h i h1
  rwa [nth_get h1, nth_get h2] at this

theorem nth_set (xs : List Int) (i j : Nat) (x : Int) (h : i < xs.length) : nth (xs.set j x) i = if j = i then x else nth xs i := by
  rw [nth_get (by simpa using h), List.getElem_set, nth_get h]

theorem OwnO.octsN {E : TypeId} {w : World} {base : Nat} {A : Option Addr} {c n : Nat} {zs : List Int} (h : OwnO E w base A c zs) (hl : zs.length = n) : Octs w A n zs := hl ▸ h.octs

theorem run_store_func (P : Program) (w : World) (a : Addr) (m : Mode) (f : Fn) (x y : Array Value) : (store a (.func f x y) m).run P w = stored P w a (.func f x y) m := run_store P w a _ m rfl

end Go.Proofs.YtfhlligcbpnkkaaDoor

/-
  Layer 12: plain words for tasks and states; the small functions of both sides; which state may follow which, both.
-/
namespace Go.Proofs.YtfhlligcbpnkkaaDoor
open Go.RowKit

/-- A value, and the world as it was. -/
def RetW (v : Value) (w : World) (e : Ending) (w' : World) : Prop := e = .returned v ∧ w = w'

def legB (a b : Int) : Bool := stB a && stB b && tabB a.toNat b.toNat
def wtB (n : Int) : Bool := decide (3 ≤ n) && decide (n ≤ 6)

theorem stB_iff {n : Int} : stB n = true ↔ 1 ≤ n ∧ n ≤ 7 := by simp [stB]
theorem stB_nat {n : Int} (h : stB n = true) : ∃ i : Nat, n = i ∧ 1 ≤ i ∧ i ≤ 7 := by
  obtain ⟨h1, h2⟩ := stB_iff.1 h
  exact ⟨n.toNat, by omega, by omega, by omega⟩

theorem st_any (n : Int) (w : World) : Calls Tryd.prog 62 #[.int .i64 n] w (RetW (.bool (stB n)) w) := by
  by_cases h1 : 1 ≤ n <;> by_cases h2 : n ≤ 7
  all_goals
    go_enter Tryd.func62, Tryd.ntmps62
    go_wp2
    go_ret
    exact ⟨by simp [stB, h1, h2], rfl⟩
theorem rst_any (n : Int) (w : World) : Calls Tryd.prog 56 #[.int .i64 n] w (RetW (.bool (stB n)) w) := by
  by_cases h1 : 1 ≤ n <;> by_cases h2 : n ≤ 7
  all_goals
    go_enter Tryd.func56, Tryd.ntmps56
    go_wp2
    go_ret
    exact ⟨by simp [stB, h1, h2], rfl⟩
theorem bel_any (n b : Int) (w : World) : Calls Tryd.prog 61 #[.int .i64 n, .int .i64 b] w (RetW (.bool (decide (0 ≤ n) && decide (n < b))) w) := by
  by_cases h1 : 0 ≤ n <;> by_cases h2 : n < b
  all_goals
    go_enter Tryd.func61, Tryd.ntmps61
    go_wp2
    go_ret
    exact ⟨by simp [h1, h2], rfl⟩
theorem mayk_any (n : Int) (w : World) : Calls Tryd.prog 63 #[.int .i64 n] w (RetW (.bool (decide (-1 ≤ n))) w) := by
  by_cases h1 : n = -1
  · subst h1
    go_enter Tryd.func63, Tryd.ntmps63
    go_wp2
    go_ret
    exact ⟨rfl, rfl⟩
  · by_cases h2 : 0 ≤ n
    · have h3 : Hid (decide (-1 ≤ n) = true) := Lib.hid (decide_eq_true (by omega))
      go_enter Tryd.func63, Tryd.ntmps63
      go_wp2
      go_ret
      exact ⟨by rw [h3.out]; simp, rfl⟩
    · have h3 : Hid (decide (-1 ≤ n) = false) := Lib.hid (decide_eq_false (by omega))
      go_enter Tryd.func63, Tryd.ntmps63
      go_wp2
      go_ret
      exact ⟨by rw [h3.out]; simpa using h1, rfl⟩
theorem wt_any (n : Int) (w : World) : Calls Tryd.prog 52 #[.int .i64 n] w (RetW (.bool (wtB n)) w) := by
  by_cases h1 : 3 ≤ n <;> by_cases h2 : n ≤ 6
  all_goals
    go_enter Tryd.func52, Tryd.ntmps52
    go_wp2
    go_ret
    exact ⟨by simp [wtB, h1, h2], rfl⟩
theorem rwt_any (n : Int) (w : World) : Calls Tryd.prog 39 #[.int .i64 n] w (RetW (.bool (wtB n)) w) := by
  by_cases h1 : 3 ≤ n <;> by_cases h2 : n ≤ 6
  all_goals
    go_enter Tryd.func39, Tryd.ntmps39
    go_wp2
    go_ret
    exact ⟨by simp [wtB, h1, h2], rfl⟩

theorem leg_any (a b : Int) (w : World) (hF : Fol w) : Calls Tryd.prog 67 #[.int .i64 a, .int .i64 b] w (RetW (.bool (legB a b)) w) := by
  unfold legB
  by_cases h1 : stB a = true
  · by_cases h2 : stB b = true
    · have H1 := Lib.hid h1
      have H2 := Lib.hid h2
      obtain ⟨i, rfl, i1, i7⟩ := stB_nat h1
      obtain ⟨j, rfl, j1, j7⟩ := stB_nat h2
      have hc := hF.2 i j (by omega) (by omega)
      have hlt := hF.1
      have hi8 : i < 8 := by omega
      have hj8 : j < 8 := by omega
      clear h1 h2 hF i1 i7 j1 j7
      go_enter Tryd.func67, Tryd.ntmps67
      go_wp2_with fail
      refine (st_any _ _).mono ?_
      rw [H1.out]
      rintro e w1 ⟨rfl, rfl⟩
      go_wp2_with fail
      refine (st_any _ _).mono ?_
      rw [H2.out]
      rintro e w1 ⟨rfl, rfl⟩
      go_wp2
      go_ret
      exact ⟨by simp [H1.out, H2.out], rfl⟩
    · have H1 := Lib.hid h1
      have h2' : stB b = false := by simpa using h2
      have H2 := Lib.hid h2'
      clear h1 h2 h2' hF
      go_enter Tryd.func67, Tryd.ntmps67
      go_wp2_with fail
      refine (st_any _ _).mono ?_
      rw [H1.out]
      rintro e w1 ⟨rfl, rfl⟩
      go_wp2_with fail
      refine (st_any _ _).mono ?_
      rw [H2.out]
      rintro e w1 ⟨rfl, rfl⟩
      go_wp2
      go_ret
      exact ⟨by simp [H2.out], rfl⟩
  · have h1' : stB a = false := by simpa using h1
    have H1 := Lib.hid h1'
    clear h1 h1' hF
    go_enter Tryd.func67, Tryd.ntmps67
    go_wp2_with fail
    refine (st_any _ _).mono ?_
    rw [H1.out]
    rintro e w1 ⟨rfl, rfl⟩
    go_wp2
    go_ret
    exact ⟨by simp [H1.out], rfl⟩

theorem legB_plain (a b : Int) : legB a b = (if stB a = true ∧ stB b = true then (if b = 7 then decide (a ≠ 7) else if b = 2 then decide (a = 1) else if b = 1 then (decide (a = 2) || wtB a) else decide (a = 2)) else false) := by
  unfold legB
  by_cases h : stB a = true ∧ stB b = true
  · rw [if_pos h, h.1, h.2]
    obtain ⟨i, rfl, i1, i7⟩ := stB_nat h.1
    obtain ⟨j, rfl, j1, j7⟩ := stB_nat h.2
    have hi : i = 1 ∨ i = 2 ∨ i = 3 ∨ i = 4 ∨ i = 5 ∨ i = 6 ∨ i = 7 := by omega
    have hj : j = 1 ∨ j = 2 ∨ j = 3 ∨ j = 4 ∨ j = 5 ∨ j = 6 ∨ j = 7 := by omega
    clear h i1 i7 j1 j7
    rcases hi with rfl | rfl | rfl | rfl | rfl | rfl | rfl <;> rcases hj with rfl | rfl | rfl | rfl | rfl | rfl | rfl <;> decide
  · rw [if_neg h]
    by_cases h1 : stB a = true
    · have : stB b = false := by
        cases hb : stB b with
        | false => rfl
        | true => exact absurd ⟨h1, hb⟩ h
      simp [this]
    · have : stB a = false := by simpa using h1
      simp [this]

end Go.Proofs.YtfhlligcbpnkkaaDoor

/-
  A region that draws its order, all of whose operations leave, in every world that meets S, one value each and a world that meets S again: it is walked in the order of its text, its calls too. Over no program.
-/
namespace Go.Proofs.YtfhlligcbpnkkaaDoor
open Go.RowKit

/-- The run leaves v, and a world that meets S. -/
def Leaves (P : Program) (S : World → Prop) (v : Value) : Result Next → Prop
  | .ok (.value u) w => u = v ∧ S w
  | .ok (.enter f args) w => Calls P f args w fun e w' => e = .returned v ∧ S w'
  | _ => False

/-- In state a, in every world that meets S, the operation leaves v in its place, and a world that meets S. -/
def Calm (P : Program) (ops : Array Oper) (S : World → Prop) (o : Oper) (v : Value) (a : Act) : Prop :=
  (Region.wanted o (yielded ops a.tmps) = true ∧ ∀ w, S w → Leaves P S v ((execOp a.eval o).run P w)) ∨
  (Region.wanted o (yielded ops a.tmps) = false ∧ v = undef)

/-- Whatever order is picked from here on, in whatever worlds that meet S. -/
def AnyS (P : Program) (md : Region.Mode) (ops : Array Oper) (Q : Exit → Act → World → Prop) (S : World → Prop) : Nat → Array Bool → Act → Prop
  | 0, listed, a => Region.ready md ops listed = [] ∧ ∀ w, S w → Q .normal a w
  | fuel + 1, listed, a =>
    (Region.ready md ops listed = [] → ∀ w, S w → Q .normal a w) ∧
    ∀ i ∈ Region.ready md ops listed, ∀ w, S w → wpOp P ops Q i (fun a' w' => S w' ∧ AnyS P md ops Q S fuel (listed.setIfInBounds i true) a') a w

section
variable {P : Program} {ops : Array Oper} {Q : Exit → Act → World → Prop} {md : Region.Mode} {S : World → Prop}

theorem any_of_calm : ∀ (fuel : Nat) (listed : Array Bool) (a : Act) (w : World), S w → AnyS P md ops Q S fuel listed a → wpAny P md ops Q fuel listed a w
  | 0, _, _, w, hS, h => ⟨h.1, h.2 w hS⟩
  | fuel + 1, _, _, w, hS, h => ⟨fun h0 => h.1 h0 w hS, fun i hi => wpOp_mono (fun a' w' h' => any_of_calm fuel _ a' w' h'.1 h'.2) (h.2 i hi w hS)⟩

theorem Calm.same {o : Oper} {v : Value} {a a' : Act} (hy : Calm P ops S o v a) (he : execOp a'.eval o = execOp a.eval o)
    (hw : Region.wanted o (yielded ops a'.tmps) = Region.wanted o (yielded ops a.tmps)) : Calm P ops S o v a' := by
  unfold Calm at *
  rw [he, hw]
  exact hy

theorem Calm.wpOp {i : Nat} {o : Oper} {v : Value} {a : Act} (hi : ops[i]? = some o) (hy : Calm P ops S o v a) {K : Act → World → Prop} {w : World} (hS : S w)
    (h : ∀ w', S w' → K (a.put o.dst v) w') : wpOp P ops Q i K a w := by
  unfold Go.wpOp
  simp only [hi]
  rcases hy with ⟨hw, hv⟩ | ⟨hw, rfl⟩
  · simp only [hw, if_true]
    left
    have h1 := hv w hS
    unfold Oper.wp
    generalize (execOp a.eval o).run P w = r at h1
    match r, h1 with
    | .ok (.value u) w', ⟨h2, h3⟩ => subst h2; exact h w' h3
    | .ok (.enter f args) w', h2 =>
      refine Calls.mono (show Calls P f args w' fun e w' => e = .returned v ∧ S w' from h2) ?_
      rintro e w'' ⟨rfl, h3⟩
      exact h w'' h3
  · simp only [hw, Bool.false_eq_true, if_false]
    exact h w hS

/-- Another operation, apart from the calm one, does not care whether its value stands there already. -/
theorem calm_past {j : Nat} {oi oj : Oper} {v : Value} (hj : ops[j]? = some oj) (hap : oi.apart ops oj = true) (hsi : ∀ cs b, oi.op ≠ .select cs b) (hsj : ∀ cs b, oj.op ≠ .select cs b)
    (hQ : ∀ c a w, Q (.panic c) (a.put oi.dst v) w → Q (.panic c) a w) {K : Act → World → Prop} {a : Act} {w : World} (hy : Calm P ops S oi v a) (h : wpOp P ops Q j K (a.put oi.dst v) w) :
    wpOp P ops Q j (fun a' w' => Calm P ops S oi v a' ∧ K (a'.put oi.dst v) w') a w := by
  obtain ⟨p1, p2, p3⟩ := Oper.apart_spec hap
  have e1 : execOp (a.put oi.dst v).eval oj = execOp a.eval oj := execOp_put oj hsj a oi.dst v p1
  have stays : ∀ (b : Act) (u : Value), execOp b.eval oi = execOp a.eval oi → Region.wanted oi (yielded ops b.tmps) = Region.wanted oi (yielded ops a.tmps) → Calm P ops S oi v (b.put oj.dst u) := fun b u g1 g2 =>
    hy.same ((execOp_put oi hsi b oj.dst u p3).trans g1) ((wanted_put oi b oj.dst u p3).trans g2)
  unfold Go.wpOp at h ⊢
  simp only [hj] at h ⊢
  rw [wanted_put oj a oi.dst v p1] at h
  by_cases hw : Region.wanted oj (yielded ops a.tmps) = true
  · rw [if_pos hw] at h ⊢
    rcases h with h | ⟨h1, h2⟩
    · left
      unfold Oper.wp at h ⊢
      rw [e1] at h
      match (execOp a.eval oj).run P w, h with
      | .ok (.value u) w', h => exact ⟨stays a u rfl rfl, by rw [← Act.put_comm a v u p2]; exact h⟩
      | .ok .skip w', h => exact ⟨stays a undef rfl rfl, by rw [← Act.put_comm a v undef p2]; exact h⟩
      | .ok (.defer d) w', h => exact ⟨stays _ undef rfl rfl, by rw [← Act.put_comm _ v undef p2, ← Act.put_defers]; exact h⟩
      | .ok (.enter f args) w', h =>
        refine Calls.mono h fun e w'' he => ?_
        match e, he with
        | .returned u, he => exact ⟨stays a u rfl rfl, by rw [← Act.put_comm a v u p2]; exact he⟩
        | .panicked c, he => exact hQ _ _ _ he
        | .outgrown, he => exact he
      | .ok (.row row args) w', h => exact Rows.mono h fun u w'' he => ⟨stays a u rfl rfl, by rw [← Act.put_comm a v u p2]; exact he⟩
      | .halt (.panic u) w', h => exact hQ _ _ _ h
    · right
      refine ⟨?_, h2⟩
      unfold Oper.asks at h1 ⊢
      rw [e1] at h1
      exact h1
  · rw [if_neg hw] at h ⊢
    exact ⟨stays a undef rfl rfl, by rw [← Act.put_comm a v undef p2]; exact h⟩

theorem calm_first {i : Nat} {oi : Oper} {v : Value} (hi : ops[i]? = some oi) (hsel : ∀ (j : Nat) (o : Oper) cs b, ops[j]? = some o → o.op ≠ .select cs b)
    (hQ : ∀ c a w, Q (.panic c) (a.put oi.dst v) w → Q (.panic c) a w) : ∀ (fuel : Nat) (listed : Array Bool) (a : Act),
      (∀ j oj, ops[j]? = some oj → j ≠ i → listed.getD j true = false → (∀ e ∈ oj.after, Region.binds md e = true → e.on ≠ i) → oi.apart ops oj = true) →
      i ∈ Region.ready md ops listed → Calm P ops S oi v a → AnyS P md ops Q S fuel (listed.setIfInBounds i true) (a.put oi.dst v) → AnyS P md ops Q S (fuel + 1) listed a := by
  intro fuel
  induction fuel with
  | zero =>
    intro listed a _ hr hy H
    refine ⟨fun h => (by rw [h] at hr; cases hr), fun j hj w hS => ?_⟩
    by_cases hji : j = i
    · subst hji
      exact hy.wpOp hi hS fun w' h' => ⟨h', H⟩
    · have h1 := ready_mono hj hji
      rw [H.1] at h1
      cases h1
  | succ fuel ih =>
    intro listed a hfree hr hy H
    refine ⟨fun h => (by rw [h] at hr; cases hr), fun j hj w hS => ?_⟩
    by_cases hji : j = i
    · subst hji
      exact hy.wpOp hi hS fun w' h' => ⟨h', H⟩
    · obtain ⟨hun, oj, hoj, hall⟩ := mem_ready.1 hj
      have hnot : ∀ e ∈ oj.after, Region.binds md e = true → e.on ≠ i := by
        rintro e he hb rfl
        have g1 := hall e he hb
        have g0 := (mem_ready.1 hr).1
        rcases Nat.lt_or_ge e.on listed.size with h' | h'
        · simp [h'] at g0 g1
          simp [g0] at g1
        · simp [Array.getElem?_eq_none h'] at g1
      have h1 := calm_past hoj (hfree j oj hoj hji hun hnot) (fun cs b => hsel i oi cs b hi) (fun cs b => hsel j oj cs b hoj) hQ hy (H.2 j (ready_mono hj hji) w hS)
      refine wpOp_mono (fun a' w' h2 => ⟨h2.2.1, ih (listed.setIfInBounds j true) a' ?_ (ready_mono hr (Ne.symm hji)) h2.1 ?_⟩) h1
      · intro k ok hk hki hkun hno
        refine hfree k ok hk hki ?_ hno
        by_cases hjk : j = k
        · subst hjk; exact hun
        · rw [getD_set_ne true hjk] at hkun; exact hkun
      · rw [Array.setIfInBounds_comm _ _ hji]
        exact h2.2.2

/-- The next operation of the text, taken. -/
theorem calm_take {i : Nat} {oi : Oper} {v : Value} {fuel : Nat} {listed : Array Bool} {a : Act} (hi : ops[i]? = some oi) (hs : Region.noSelect ops = true) (hf : Region.free md ops listed i = true)
    (hr : (Region.ready md ops listed).contains i = true) (hQ : ∀ c a w, Q (.panic c) (a.put oi.dst v) w → Q (.panic c) a w) (hy : Calm P ops S oi v a)
    (h : AnyS P md ops Q S fuel (listed.setIfInBounds i true) (a.put oi.dst v)) : AnyS P md ops Q S (fuel + 1) listed a :=
  calm_first hi (Region.noSelect_spec hs) hQ fuel listed a (Region.free_spec hi hf) (by simpa using hr) hy h

/-- The same, where the operation's place is named. -/
theorem calm_to {i t : Nat} {oi : Oper} {v : Value} {fuel : Nat} {listed : Array Bool} {a : Act} (hi : ops[i]? = some oi) (ht : oi.dst = some t) (hs : Region.noSelect ops = true) (hf : Region.free md ops listed i = true)
    (hr : (Region.ready md ops listed).contains i = true) (hQ : ∀ c a w, Q (.panic c) (a.put (some t) v) w → Q (.panic c) a w) (hy : Calm P ops S oi v a)
    (h : AnyS P md ops Q S fuel (listed.setIfInBounds i true) { a with tmps := a.tmps.setIfInBounds t v }) : AnyS P md ops Q S (fuel + 1) listed a :=
  calm_take hi hs hf hr (by rw [ht]; exact hQ) hy (by rw [ht]; exact h)

theorem calm_done {listed : Array Bool} {a : Act} (hr : Region.ready md ops listed = []) (h : ∀ w, S w → Q .normal a w) : ∀ fuel, AnyS P md ops Q S fuel listed a
  | 0 => ⟨hr, h⟩
  | _ + 1 => ⟨fun _ => h, by rw [hr]; simp⟩

theorem calm_region {id : Nat} {a : Act} {w : World} (hm : P.follows .mixedOrders = true) (hS : S w.drew)
    (h : AnyS P .any ops Q S ops.size (Array.replicate ops.size false) a) : (Code.region id ops true).wp P Q a w :=
  wp_region_any hm (any_of_calm _ _ _ _ hS h)

/-- What yields its value and leaves the world alone is calm. -/
theorem calm_of {o : Oper} {v : Value} {a : Act} (hw : Region.wanted o (yielded ops a.tmps) = true) (h : ∀ w, S w → (execOp a.eval o).run P w = .ok (.value v) w) : Calm P ops S o v a :=
  .inl ⟨hw, fun w hS => by rw [h w hS]; exact ⟨rfl, hS⟩⟩

theorem calm_skip {o : Oper} {a : Act} (hw : Region.wanted o (yielded ops a.tmps) = false) : Calm P ops S o undef a := .inr ⟨hw, rfl⟩

theorem calm_move {o : Oper} {v : Value} {a : Act} (hw : Region.wanted o (yielded ops a.tmps) = true) (x : Operand) (ho : o.op = .move x ∨ o.op = .assign x) (hx : a.eval x = v) : Calm P ops S o v a :=
  calm_of hw fun w _ => by
    unfold execOp
    rcases ho with ho | ho <;> simp only [ho, hx, Sem.run_pure]

/-- A call of a function of one argument, by its contract. -/
theorem calm_call1 {o : Oper} {v : Value} {a : Act} (hw : Region.wanted o (yielded ops a.tmps) = true) (f : FuncId) (x : Operand) (ts : Array TypeId) (ho : o.op = .call { callee := .value (.func f), args := #[x], argTypes := ts })
    (he : ∀ args w, (callFunc f args).run P w = .ok (.enter f args) w) (u : Value) (hx : a.eval x = u) (hc : ∀ w, S w → Calls P f #[u] w fun e w' => e = .returned v ∧ S w') : Calm P ops S o v a :=
  .inl ⟨hw, fun w hS => by
    have : (execOp a.eval o).run P w = .ok (.enter f #[u]) w := by
      unfold execOp
      simp only [ho, resolve, List.map_toArray, List.map_cons, List.map_nil, hx]
      simp [Act.eval, Deferred.ofValue, invoke, he]
    rw [this]
    exact hc w hS⟩

/-- A call of a function of two arguments, by its contract. -/
theorem calm_call2 {o : Oper} {v : Value} {a : Act} (hw : Region.wanted o (yielded ops a.tmps) = true) (f : FuncId) (x y : Operand) (ts : Array TypeId) (ho : o.op = .call { callee := .value (.func f), args := #[x, y], argTypes := ts })
    (he : ∀ args w, (callFunc f args).run P w = .ok (.enter f args) w) (u u' : Value) (hx : a.eval x = u) (hy : a.eval y = u') (hc : ∀ w, S w → Calls P f #[u, u'] w fun e w' => e = .returned v ∧ S w') : Calm P ops S o v a :=
  .inl ⟨hw, fun w hS => by
    have : (execOp a.eval o).run P w = .ok (.enter f #[u, u']) w := by
      unfold execOp
      simp only [ho, resolve, List.map_toArray, List.map_cons, List.map_nil, hx, hy]
      simp [Act.eval, Deferred.ofValue, invoke, he]
    rw [this]
    exact hc w hS⟩

theorem calm_pick {o : Oper} {v : Value} {a : Act} (hw : Region.wanted o (yielded ops a.tmps) = true) (c x y : Operand) (ho : o.op = .pick c x y) (b : Bool) (hc : a.eval c = .bool b) (hv : (if b then a.eval x else a.eval y) = v) : Calm P ops S o v a :=
  calm_of hw fun w _ => by
    unfold execOp
    simp [ho, hc, asBool, hv]

end

end Go.Proofs.YtfhlligcbpnkkaaDoor

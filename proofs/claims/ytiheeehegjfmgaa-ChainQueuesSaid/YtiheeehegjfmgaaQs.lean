/-
  A slice of slices of numbers, all of the call's own ('[][]int'): each row in a block apart from all others; what is read of it, appended onto a row, put in a row's place, and pushed behind. Over no program.
-/
import Derived.Test.YtiheeehegjfmgaaQue
namespace Go.Proofs.Ytiheeehegjfmgaa
open Go.RowKit

/-- A row's place and capacity; its value. -/
def qa (hs : List (Option Addr × Nat)) (j : Nat) : Option Addr × Nat := hs.getD j (none, 0)
def qth (qs : List (List Int)) (j : Nat) : List Int := qs.getD j []
def qv (h : Option Addr × Nat) (l : List Int) : Value := .slice h.1 l.length h.2
def qblk (h : Option Addr × Nat) : Option Nat := (Value.slice h.1 0 0).ownBlock
theorem qa_get {hs : List (Option Addr × Nat)} {j : Nat} (h : j < hs.length) : qa hs j = hs[j] := by simp [qa, List.getD, h]
theorem qth_get {qs : List (List Int)} {j : Nat} (h : j < qs.length) : qth qs j = qs[j] := by simp [qth, List.getD, h]
theorem qa_set (hs : List (Option Addr × Nat)) (j i : Nat) (x : Option Addr × Nat) (h : i < hs.length) : qa (hs.set j x) i = if j = i then x else qa hs i := by
  rw [qa_get (by simpa using h), List.getElem_set, qa_get h]
theorem qth_set (qs : List (List Int)) (j i : Nat) (x : List Int) (h : i < qs.length) : qth (qs.set j x) i = if j = i then x else qth qs i := by
  rw [qth_get (by simpa using h), List.getElem_set, qth_get h]
theorem qth_beyond {qs : List (List Int)} {j : Nat} (h : qs.length ≤ j) : qth qs j = [] := by simp [qth, List.getD, List.getElem?_eq_none h]

structure OwnQs (E R : TypeId) (w : World) (base : Nat) (H : Option Addr) (C : Nat) (hs : List (Option Addr × Nat)) (qs : List (List Int)) : Prop where
  len : hs.length = qs.length
  row : w.ownsRow base R 1 (.slice H qs.length C) qs.length (List.zipWith qv hs qs)
  own : ∀ j, j < qs.length → OwnQ E w base (qa hs j).1 (qa hs j).2 (qth qs j)
  apart : ∀ i j, i < qs.length → j < qs.length → i ≠ j → ∀ k, qblk (qa hs i) = some k → qblk (qa hs j) ≠ some k

section
variable {E R : TypeId} {w w' : World} {base : Nat} {H : Option Addr} {C : Nat} {hs : List (Option Addr × Nat)} {qs : List (List Int)}

theorem OwnQs.nil_ (E R : TypeId) (w : World) (base : Nat) : OwnQs E R w base none 0 [] [] := ⟨rfl, World.ownsRow_nil w base R 1, fun j hj => by simp at hj, fun i j hi => by simp at hi⟩
theorem OwnQs.hblock (h : OwnQs E R w base H C hs qs) {n d : Nat} : ∀ k, (Value.slice H n d).ownBlock = some k → base ≤ k ∧ k < w.heap.size := by
  intro k hk
  refine h.row.lt k ?_
  cases H with
  | none => simp [Value.ownBlock] at hk
  | some ad => simpa [Value.ownBlock] using hk
theorem OwnQs.below (h : OwnQs E R w base H C hs qs) (hb : Below w.heap.size w w') : OwnQs E R w' base H C hs qs :=
  ⟨h.len, h.row.kept (row := none) ⟨hb.os, hb.tape, hb.output, hb.size, fun k hk _ => hb.block k hk⟩ (by cases (Value.slice H qs.length C).ownBlock <;> simp), fun j hj => (h.own j hj).below hb, h.apart⟩
/-- The header's block holds cells of its own type. -/
theorem OwnQs.type (h : OwnQs E R w base H C hs qs) {n d k : Nat} (hk : (Value.slice H n d).ownBlock = some k) : ∃ cs, Bk w k R cs := by
  rcases h.row.2 with ⟨e, _⟩ | ⟨g, cap, cur, e, _, hh, _⟩
  · injection e with e _ _; subst e; simp [Value.ownBlock] at hk
  · injection e with e _ _; subst e; simp [Value.ownBlock] at hk; subst hk; exact ⟨cur, hh⟩
theorem bk_types {k : Nat} {cs cs' : Array Value} (h : Bk w k E cs) (h' : Bk w k R cs') : E = R := by
  unfold Bk at h h'
  rw [h] at h'
  simp at h'
  exact h'.2
/-- The header lies in no row's block. -/
theorem OwnQs.hne (h : OwnQs E R w base H C hs qs) (hER : E ≠ R) {A : Option Addr} {c : Nat} {zs : List Int} (ho : OwnQ E w base A c zs) {n d n' d' : Nat} : (Value.slice H n d).ownBlock = none ∨ (Value.slice H n d).ownBlock ≠ (Value.slice A n' d').ownBlock := by
  cases e : (Value.slice H n d).ownBlock with
  | none => exact .inl rfl
  | some k =>
    refine .inr fun e' => ?_
    obtain ⟨cs, hk⟩ := h.type e
    obtain ⟨cs', hk'⟩ := ho.type e'.symm
    exact hER (bk_types hk' hk)

/-- What a row's cell in the header holds. -/
theorem OwnQs.at_ {g : Nat} (h : OwnQs E R w base (some ⟨g, 0, none⟩) C hs qs) {j : Nat} (hj : j < qs.length) :
    w.cell? ⟨g, j, none⟩ = some (.slice (qa hs j).1 (qth qs j).length (qa hs j).2) ∧ w.frozen? ⟨g, j, none⟩ = false := by
  have hj' : j < hs.length := by rw [h.len]; exact hj
  refine ⟨?_, h.row.frozenAt j⟩
  rw [h.row.cellAt j (by omega)]
  rw [List.getElem?_zipWith]
  simp [List.getElem?_eq_getElem hj, List.getElem?_eq_getElem hj', qv, qa_get hj', qth_get hj]
theorem OwnQs.form (h : OwnQs E R w base H C hs qs) (hn : 0 < qs.length) : ∃ g, H = some ⟨g, 0, none⟩ ∧ base ≤ g ∧ g < w.heap.size := by
  rcases h.row.2 with ⟨h1, h2⟩ | ⟨g, cap, cur, e, hb, hh, _⟩
  · omega
  · injection e with e1 _ _
    subst e1
    exact ⟨g, rfl, hb, (Array.getElem?_eq_some_iff.1 hh).1⟩

/-- A row has turned (in place, or into another block), and is stored into the header. -/
theorem OwnQs.put {g : Nat} (h : OwnQs E R w base (some ⟨g, 0, none⟩) C hs qs) (hER : E ≠ R) {j : Nat} (hj : j < qs.length) {w1 : World} (hg : w.grownBy w1 (qblk (qa hs j))) {A : Option Addr} {c : Nat} {l : List Int}
    (ho : OwnQ E w1 base A c l) (hap : ∀ k, (Value.slice A 0 0).ownBlock = some k → qblk (qa hs j) = some k ∨ w.heap.size ≤ k) :
    OwnQs E R (w1.setCell ⟨g, j, none⟩ (.slice A l.length c)) base (some ⟨g, 0, none⟩) C (hs.set j (A, c)) (qs.set j l) := by
  have hj' : j < hs.length := by rw [h.len]; exact hj
  have hne : ∀ {B : Option Addr} {d : Nat} {zs : List Int}, OwnQ E w1 base B d zs → (Value.slice B 0 0).ownBlock = none ∨ (Value.slice B 0 0).ownBlock ≠ some g := by
    intro B d zs hB
    cases e : (Value.slice B 0 0).ownBlock with
    | none => exact .inl rfl
    | some k =>
      refine .inr fun e' => ?_
      injection e' with e'
      subst e'
      obtain ⟨cs, hk⟩ := hB.type e
      obtain ⟨cs', hk'⟩ := h.type (n := 0) (d := 0) (k := k) rfl
      have hk1 : Bk w1 k R cs' := by
        refine (hg.block k hk'.lt ?_).trans hk'
        intro e2
        obtain ⟨cs2, hk2⟩ := (h.own j hj).type (n := 0) (d := 0) (k := k) (by unfold qblk at e2; exact e2.symm)
        exact hER (bk_types hk2 hk')
      exact hER (bk_types hk hk1)
  have hrow : w1.ownsRow base R 1 (.slice (some ⟨g, 0, none⟩) qs.length C) qs.length (List.zipWith qv hs qs) := h.row.kept hg (by
    have := h.hne hER (h.own j hj) (n := qs.length) (d := C) (n' := 0) (d' := 0)
    exact this)
  refine ⟨by simpa using h.len, ?_, fun i hi => ?_, fun i i' hi hi' hii k hk => ?_⟩
  · have := (hrow.stored j (.slice A l.length c)).1
    have e : (List.zipWith qv hs qs).set j (.slice A l.length c) = List.zipWith qv (hs.set j (A, c)) (qs.set j l) := by
      refine List.ext_getElem (by simp) fun m h1 h2 => ?_
      simp only [List.getElem_set, List.getElem_zipWith]
      split <;> rfl
    rw [e] at this
    simpa using this
  · have hi0 : i < qs.length := by simpa using hi
    rw [qa_set _ _ _ _ (by rw [h.len]; exact hi0), qth_set _ _ _ _ hi0]
    split
    · exact ho.setOther (hne ho) _
    · rename_i hji
      have hk : OwnQ E w1 base (qa hs i).1 (qa hs i).2 (qth qs i) := (h.own i hi0).grown hg (by
        cases e : (Value.slice (qa hs i).1 0 0).ownBlock with
        | none => exact .inl rfl
        | some k => exact .inr fun e' => h.apart i j hi0 hj (Ne.symm hji) k e e'.symm)
      exact hk.setOther (hne hk) _
  · have hi0 : i < qs.length := by simpa using hi
    have hi1 : i' < qs.length := by simpa using hi'
    rw [qa_set _ _ _ _ (by rw [h.len]; exact hi0)] at hk
    rw [qa_set _ _ _ _ (by rw [h.len]; exact hi1)]
    by_cases e1 : j = i
    · rw [if_pos e1] at hk
      rw [if_neg (by rintro rfl; exact hii e1.symm)]
      rcases hap k hk with hk | hk
      · exact h.apart j i' hj hi1 (by rintro rfl; exact hii e1.symm) k hk
      · intro e2
        have := ((h.own i' hi1).block (n := 0) (d := 0) k e2).2
        omega
    · rw [if_neg e1] at hk
      by_cases e2 : j = i'
      · rw [if_pos e2]
        intro e3
        rcases hap k e3 with h3 | h3
        · exact h.apart i j hi0 hj (Ne.symm e1) k hk h3
        · have := ((h.own i hi0).block (n := 0) (d := 0) k hk).2
          omega
      · rw [if_neg e2]
        exact h.apart i i' hi0 hi1 hii k hk

/-- 'rows[j] = nil', and 'rows[j] = rows[j][1:]': a row's value turns in the header alone. -/
theorem OwnQs.turn {g : Nat} (h : OwnQs E R w base (some ⟨g, 0, none⟩) C hs qs) (hER : E ≠ R) {j : Nat} (hj : j < qs.length) {A : Option Addr} {c : Nat} {l : List Int}
    (ho : OwnQ E w base A c l) (hap : ∀ k, (Value.slice A 0 0).ownBlock = some k → qblk (qa hs j) = some k) :
    OwnQs E R (w.setCell ⟨g, j, none⟩ (.slice A l.length c)) base (some ⟨g, 0, none⟩) C (hs.set j (A, c)) (qs.set j l) :=
  h.put hER hj (World.grownBy.refl _ _) ho fun k hk => .inl (hap k hk)

/-- All stays, where another block turns. -/
theorem OwnQs.grown (h : OwnQs E R w base H C hs qs) {row : Option Nat} (hg : w.grownBy w' row) (h1 : (Value.slice H 0 0).ownBlock = none ∨ (Value.slice H 0 0).ownBlock ≠ row) (h2 : ∀ j, j < qs.length → qblk (qa hs j) = none ∨ qblk (qa hs j) ≠ row) : OwnQs E R w' base H C hs qs :=
  ⟨h.len, h.row.kept hg (by
    rcases h1 with e | e
    · left; cases H <;> simp_all [Value.ownBlock]
    · right; cases H <;> simp_all [Value.ownBlock]), fun j hj => (h.own j hj).grown hg (h2 j hj), h.apart⟩
/-- .. where a block of another type turns. -/
theorem OwnQs.grownT (h : OwnQs E R w base H C hs qs) {g : Nat} {T : TypeId} {cs : Array Value} (hg : w.grownBy w' (some g)) (hk : Bk w g T cs) (hE : E ≠ T) (hR : R ≠ T) : OwnQs E R w' base H C hs qs := by
  refine h.grown hg ?_ fun j hj => ?_
  · cases e : (Value.slice H 0 0).ownBlock with
    | none => exact .inl rfl
    | some k =>
      refine .inr fun e' => ?_
      injection e' with e'
      subst e'
      obtain ⟨cs', hk'⟩ := h.type e
      exact hR (bk_types hk' hk)
  · cases e : qblk (qa hs j) with
    | none => exact .inl rfl
    | some k =>
      refine .inr fun e' => ?_
      injection e' with e'
      subst e'
      obtain ⟨cs', hk'⟩ := (h.own j hj).type (n := 0) (d := 0) e
      exact hE (bk_types hk' hk)

theorem qa_snoc (hs : List (Option Addr × Nat)) (x : Option Addr × Nat) (j : Nat) (h : j < hs.length + 1) : qa (hs ++ [x]) j = if j < hs.length then qa hs j else x := by
  rw [qa_get (by simpa using h), List.getElem_append]
  split
  · rename_i h'; rw [qa_get h']
  · simp
theorem qth_snocQ (qs : List (List Int)) (l : List Int) (j : Nat) (h : j < qs.length + 1) : qth (qs ++ [l]) j = if j < qs.length then qth qs j else l := by
  rw [qth_get (by simpa using h), List.getElem_append]
  split
  · rename_i h'; rw [qth_get h']
  · simp

/-- A row of the call's own, apart from all others, is appended. -/
theorem wpList_push_row {P : Program} (w : World) {ops : Array Oper} {rest : List Oper} {o : Oper} {a : Act} {Q : Exit → Act → World → Prop} (hgd : o.guard = none) (s x : Operand) (t : TypeId)
    (ho : o.op = .call { callee := .builtin .append, args := #[s, x], argTypes := #[t, t] })
    (E R : TypeId) (hER : E ≠ R) (ht : P.underlying t = some (.slice R)) (hi : (P.info? R).map (fun i => (i.zero, i.size, i.bytes)) = some (some (.slice none 0 0), 1, 24))
    (base : Nat) (H : Option Addr) (C : Nat) (hs : List (Option Addr × Nat)) (qs : List (List Int)) (n : Nat) (hn : n = qs.length) (hsv : a.eval s = .slice H n C) (h : OwnQs E R w base H C hs qs)
    (A : Option Addr) (c : Nat) (l : List Int) (hl : OwnQ E w base A c l) (hap : ∀ j, j < qs.length → ∀ k, (Value.slice A 0 0).ownBlock = some k → qblk (qa hs j) ≠ some k)
    (gx d : Nat) (hxv : a.eval x = .slice (some ⟨gx, 0, none⟩) 1 d) (hx : w.cell? ⟨gx, 0, none⟩ = some (.slice A l.length c)) (hb : qs.length < 1000000) (hbase : base ≤ w.heap.size)
    (hK : ∀ H' C' w', OwnQs E R w' base H' C' (hs ++ [(A, c)]) (qs ++ [l]) → w.grownBy w' (Value.slice H n C).ownBlock → wpList P ops Q rest (a.put o.dst (.slice H' (qs.length + 1) C')) w') :
    wpList P ops Q (o :: rest) a w := by
  subst hn
  obtain ⟨i, hi', hz0, hz1, hz2⟩ := info_parts hi
  refine wpList_append_own_at (P := P) w hgd s x t ho base R i (.slice none 0 0) 1 24 ht hi' hz0 hz1 hz2 rfl (by decide) (.slice H qs.length C) qs.length (List.zipWith qv hs qs) hsv h.row ⟨gx, 0, none⟩ 1 d [.slice A l.length c] hxv rfl
    (fun j u hu => by
      match j, hu with
      | 0, hu => simp at hu; subst hu; simpa [Addr.add] using hx) (fun u hu => by rw [List.mem_singleton.1 hu]; rfl) (by unfold maxLen; omega) (by omega) hbase ?_
  intro v' w' hrow hg _ _
  have e : ∃ H' C', v' = .slice H' (qs.length + 1) C' := by
    rcases hrow.2 with ⟨_, h0⟩ | ⟨g, cap, cur, e, _⟩
    · omega
    · exact ⟨_, cap, e⟩
  obtain ⟨H', C', rfl⟩ := e
  refine hK H' C' w' ⟨by simp [h.len], ?_, fun j hj => ?_, fun i j hi2 hj hij k hk => ?_⟩ hg
  · have : List.zipWith qv (hs ++ [(A, c)]) (qs ++ [l]) = List.zipWith qv hs qs ++ [.slice A l.length c] := by
      rw [List.zipWith_append h.len]; rfl
    rw [this]
    simpa using hrow
  · have hj' : j < qs.length + 1 := by simpa using hj
    rw [qa_snoc _ _ _ (by rw [h.len]; exact hj'), qth_snocQ _ _ _ hj', h.len]
    have kept : ∀ {B : Option Addr} {e : Nat} {zs : List Int}, OwnQ E w base B e zs → OwnQ E w' base B e zs := fun hB => hB.grown hg (by
      cases e : (Value.slice _ 0 0).ownBlock with
      | none => exact .inl rfl
      | some k =>
        refine .inr fun e' => ?_
        rcases h.hne hER hB (n := qs.length) (d := C) (n' := 0) (d' := 0) with e2 | e2
        · rw [e2] at e'; cases e'
        · exact e2 (by rw [← e', e]))
    split
    · rename_i a1; exact kept (h.own j a1)
    · exact kept hl
  · have hi' : i < qs.length + 1 := by simpa using hi2
    have hj' : j < qs.length + 1 := by simpa using hj
    rw [qa_snoc _ _ _ (by rw [h.len]; exact hi'), h.len] at hk
    rw [qa_snoc _ _ _ (by rw [h.len]; exact hj'), h.len]
    by_cases a1 : i < qs.length <;> by_cases a2 : j < qs.length
    · rw [if_pos a1] at hk
      rw [if_pos a2]
      exact h.apart i j a1 a2 hij k hk
    · rw [if_pos a1] at hk
      rw [if_neg a2]
      intro e
      exact hap i a1 k e hk
    · rw [if_neg a1] at hk
      rw [if_pos a2]
      exact hap j a2 k hk
    · omega
end

end Go.Proofs.Ytiheeehegjfmgaa

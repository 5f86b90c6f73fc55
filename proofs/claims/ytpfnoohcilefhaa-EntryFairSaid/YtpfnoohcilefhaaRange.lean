/-
  A range over a function whose body always goes on, where what the body is handed lies in memory: each element bears a word on the world in which it is handed over. Over no program.
-/
import Derived.RangeFuncNested
import Derived.RangeFuncBound
import Derived.RangeFuncCalls
import Derived.RangeFuncLeaves
import Derived.Test.YtpfnoohcilefhaaBlk
namespace Go.Proofs.Ytpfnoohcilefhaa
open Go.RowKit

/-- Y is X but for new memory, and blocks from B on that are no cells. -/
structure Turn (B : Nat) (X Y : World) : Prop where
  os : Y.os = X.os
  tape : Y.tape = X.tape
  output : Y.output = X.output
  size : X.heap.size ≤ Y.heap.size
  same : ∀ (k : Nat) (o : Obj), X.heap[k]? = some o → (o.isCells = true ∨ k < B) → Y.heap[k]? = some o

theorem Turn.of_below {B : Nat} {X Y : World} (h : Below X.heap.size X Y) : Turn B X Y := ⟨h.os, h.tape, h.output, h.size, fun k _ hk _ => (h.block k (Array.getElem?_eq_some_iff.1 hk).1).trans hk⟩
theorem Turn.put {B : Nat} {X : World} {l : Nat} {o : Obj} (o' : Obj) (hl : X.heap[l]? = some o) (hB : B ≤ l) (ho : o.isCells = false) : Turn B X (X.putObj l o') :=
  ⟨rfl, rfl, rfl, by simp, fun k u hk hu => (World.putObj_heap_other (fun e => by
    subst e
    rw [hl] at hk
    injection hk with hk
    subst hk
    rcases hu with hu | hu
    · rw [ho] at hu; cases hu
    · omega)).trans hk⟩
theorem Turn.trans {B : Nat} {X Y Z : World} (h : Turn B X Y) (k : Turn B Y Z) : Turn B X Z := ⟨k.os.trans h.os, k.tape.trans h.tape, k.output.trans h.output, Nat.le_trans h.size k.size, fun i o hi ho => k.same i o (h.same i o hi ho) ho⟩

/-- What lay below B lies there. -/
theorem Turn.below {B C : Nat} {w X Y : World} (h : Below C w X) (ht : Turn B X Y) (hC : C ≤ B) (hw : C ≤ w.heap.size) : Below C w Y :=
  ⟨ht.os.trans h.os, ht.tape.trans h.tape, ht.output.trans h.output, Nat.le_trans h.size ht.size, fun k hk => by
    have hx := h.block k hk
    have hlt : k < X.heap.size := Nat.lt_of_lt_of_le (Nat.lt_of_lt_of_le hk hw) h.size
    have e : X.heap[k]? = some X.heap[k] := Array.getElem?_eq_getElem hlt
    rw [ht.same k _ e (.inr (by omega)), ← e]
    exact hx⟩

/-- A function that hands elements over, one by one: of each V holds where it is handed over; of all S behind. -/
def SeqV {α : Type} (n : Nat) (P : Program) (g : Nat) (lb : Array Value) (encs : α → Array Value) (V : α → World → Prop) (Kp : World → World → Prop) (S : List α → World → Prop) (N : Nat) (w : World) : Prop :=
  ∀ (l : Nat) (J : List α → World → Prop) (W : World), Below w.heap.size w W → (∀ s X Y, J s X → Below X.heap.size X Y → J s Y) →
    (∀ pre x W1, J pre W1 → V x W1 → pre.length < N → YieldAt Fence.wide (n - 1) P l (encs x) W1 fun e W' => e = .returned (.bool true) ∧ J (pre ++ [x]) W' ∧ Kp W1 W') →
    J [] W → CallsIn Fence.wide n P g (#[.func (.yield l) #[] #[]] ++ lb) W fun e W' => (∃ v, e = .returned v) ∧ ∃ xs, S xs W' ∧ J xs W'

theorem range_all {α : Type} {n : Nat} {P : Program} {g : Operand} {ps : Array Tmp} {assign body : Code} {Q : Exit → Act → World → Prop} {a : Act} {w : World} {gf : Nat} {lb : Array Value}
    (hg : a.eval g = .func (.func gf) #[] lb) (eg : ∀ args w, (callFunc gf args).run P w = .ok (.enter gf args) w)
    {encs : α → Array Value} {V : α → World → Prop} {Kp : World → World → Prop} {S : List α → World → Prop} {N : Nat} (hseq : SeqV (n - 1) P gf lb encs V Kp S N w) (hps : ∀ x, (encs x).size = ps.size)
    (I : List α → World → Prop) (Ax : α → Act → World → Prop) (hI : ∀ s X Y, I s X → Turn w.heap.size X Y → I s Y) (hS : ∀ s X Y, S s X → Turn w.heap.size X Y → S s Y)
    (hA : ∀ x a' X Y, Ax x a' X → Turn w.heap.size X Y → Ax x a' Y) (hK : ∀ X Y, w.heap.size ≤ X.heap.size → Turn w.heap.size X Y → Kp X Y) (hKt : ∀ {X Y Z}, Kp X Y → Kp Y Z → Kp X Z) (h0 : I [] w)
    (hround : ∀ (l : Nat) (pre : List α) (x : α) (W : World), I pre W → V x W → pre.length < N →
      assign.wpIn (Fence.wide.inRound l) (n - 1 - 1) P (Exit.then (fun a' Wa => KeepsFrom w.heap.size W Wa ∧ Kp W Wa ∧ I pre Wa ∧ Ax x a' Wa) (fun _ _ _ => False))
        { tmps := (ps.zip (encs x)).foldl (fun t (p, v) => t.setIfInBounds p v) a.tmps, defers := [] } W)
    (hbody : ∀ (l : Nat) (pre : List α) (x : α) (a' : Act) (W : World), I pre W → Ax x a' W → pre.length < N →
      body.wpIn (Fence.wide.inRound l) (n - 1 - 1) P (fun e _ W' => e = .normal ∧ KeepsFrom w.heap.size W W' ∧ Kp W W' ∧ I (pre ++ [x]) W') a' W)
    (hdone : ∀ (D : Nat) (xs : List α) (W : World), w.heap.size ≤ D → S xs W → I xs W → W.heap[D]? = some (.deferred (some [])) → Q .normal { a with defers := { target := .collected D, args := #[] } :: a.defers } W) :
    (Code.rangeFunc g ps assign body).wpIn Fence.wide n P Q a w := by
  refine wpIn_rangeFunc fun fn hfn => ?_
  let B := w.heap.size
  let rec_ (st : LoopState) : Loop := { state := st, pending := none, fn := fn, tmps := a.tmps, params := ps, assign := assign, body := body, defers := B }
  let W1 := (w.alloc (.deferred (some []))).alloc (.loop (rec_ .ready))
  have s1 : (w.alloc (.deferred (some []))).heap.size = B + 1 := by simp [B]
  have hD1 : W1.heap[B]? = some (.deferred (some [])) := (Below.heap_alloc _ _ _ (by omega)).trans (World.alloc_heap_new w _)
  have hL1 : W1.heap[B + 1]? = some (.loop (rec_ .ready)) := by rw [← s1]; exact World.alloc_heap_new _ _
  have hb1 : Below w.heap.size w W1 := ((Below.refl _ w).alloc (Nat.le_refl _) _).alloc (by simp) _
  have st : ∀ (X : World) (q : LoopState) (o' : Obj), X.heap[B + 1]? = some (.loop (rec_ q)) → Turn w.heap.size X (X.putObj (B + 1) o') := fun X q o' h => Turn.put o' h (by simp [B]) rfl
  refine ⟨B + 1, [{ target := .collected B, args := #[] }], W1, { target := .fn (.func gf) lb, args := #[.func (.yield (B + 1)) #[] #[]] }, W1, gf, #[.func (.yield (B + 1)) #[] #[]] ++ lb, W1, run_enterLoop_outer _ _ _ _ _, ?_, ?_, ?_, (fun h => by cases h), ?_⟩
  · simp only [resolve, hg]
    simp [go_sem]
  · intro _ _; trivial
  · simp [invoke, go_sem, eg]
  · refine (hseq (B + 1) (fun pre X => I pre X ∧ X.heap[B + 1]? = some (.loop (rec_ .ready)) ∧ X.heap[B]? = some (.deferred (some []))) W1 hb1 ?_ ?_ ⟨hI _ _ _ h0 (Turn.of_below hb1), hL1, hD1⟩).mono ?_
    · rintro s X Y ⟨h1, h2, h3⟩ hb
      exact ⟨hI _ _ _ h1 (Turn.of_below hb), (hb.block _ (Array.getElem?_eq_some_iff.1 h2).1).trans h2, (hb.block _ (Array.getElem?_eq_some_iff.1 h3).1).trans h3⟩
    · rintro pre x X ⟨hi, hl, hd⟩ hv hlen
      refine ⟨fn, _, assign, body, run_yield hl (hps x), roundIn_of_wpIn hfn (wpIn_mono (hround (B + 1) pre x X hi hv hlen) ?_)⟩
      rintro e a' Xa hp
      cases e with
      | normal =>
        obtain ⟨k1, p1, i1, x1⟩ := hp
        have hl2 := k1.same _ _ (show w.heap.size ≤ B + 1 by simp [B]) hl rfl
        have hd2 := k1.same _ _ (show w.heap.size ≤ B by simp [B]) hd rfl
        have hlt : B + 1 < Xa.heap.size := (Array.getElem?_eq_some_iff.1 hl2).1
        have t1 := st Xa .ready (.loop (rec_ .busy)) hl2
        refine ⟨Xa.putObj (B + 1) (.loop (rec_ .busy)), run_beginRound hl2 rfl, wpIn_mono (hbody (B + 1) pre x a' _ (hI _ _ _ i1 t1) (hA _ _ _ _ x1 t1) hlen) ?_⟩
        rintro e2 a2 X2 ⟨rfl, k2, p2, i2⟩
        have hl3 : X2.heap[B + 1]? = some (.loop (rec_ .busy)) := k2.same _ _ (by simp [B]) (World.putObj_heap_same hlt) rfl
        have hd3 : X2.heap[B]? = some (.deferred (some [])) := k2.same _ _ (by simp [B]) ((World.putObj_heap_other (by omega)).trans hd2) rfl
        have t2 := st X2 .busy (.loop (rec_ .ready)) hl3
        exact ⟨_, _, run_endRound none hl3, rfl, ⟨hI _ _ _ i2 t2, World.putObj_heap_same (Array.getElem?_eq_some_iff.1 hl3).1, (World.putObj_heap_other (by omega)).trans hd3⟩, hKt p1 (hKt (hKt (hK _ _ (by simp [B] at hlt; omega) t1) p2) (hK _ _ (by have := (Array.getElem?_eq_some_iff.1 hl3).1; simp [B] at this; omega) t2))⟩
      | exit id => exact hp.elim
      | goto t => exact hp.elim
      | ret => exact hp.elim
      | panic ch => exact hp.elim
      | outgrown => exact hp.elim
    · rintro e X ⟨⟨v, rfl⟩, xs, hs, hi, hl, hd⟩
      have t3 := st X .ready (.loop { rec_ .ready with state := .exhausted }) hl
      exact ⟨none, _, run_endLoop hl (by simp [rec_]), hdone B xs _ (Nat.le_refl _) (hS _ _ _ hs t3) (hI _ _ _ hi t3) ((World.putObj_heap_other (by omega)).trans hd)⟩

end Go.Proofs.Ytpfnoohcilefhaa

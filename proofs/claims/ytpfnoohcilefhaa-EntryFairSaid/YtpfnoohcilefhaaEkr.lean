/-
  A range over a function that hands over what was settled before, one by one by its number, the body of which may leave early; the body tells which blocks it may write (S): all others lie as they lay, the function's own as well. Over no program.
-/
import Derived.Test.YtpfnoohcilefhaaRange
import Derived.Test.YtpfnoohcilefhaaBase
namespace Go.Proofs.Ytpfnoohcilefhaa
open Go.RowKit

/-- All blocks that are not of S lie as they lay. -/
structure Keep (S : Nat → Prop) (X Y : World) : Prop where
  os : Y.os = X.os
  tape : Y.tape = X.tape
  output : Y.output = X.output
  size : X.heap.size ≤ Y.heap.size
  same : ∀ k, k < X.heap.size → ¬ S k → Y.heap[k]? = X.heap[k]?

theorem Keep.refl (S : Nat → Prop) (X : World) : Keep S X X := ⟨rfl, rfl, rfl, Nat.le_refl _, fun _ _ _ => rfl⟩
theorem Keep.trans {S : Nat → Prop} {X Y Z : World} (h : Keep S X Y) (k : Keep S Y Z) : Keep S X Z :=
  ⟨k.os.trans h.os, k.tape.trans h.tape, k.output.trans h.output, Nat.le_trans h.size k.size, fun i hi hs => (k.same i (Nat.lt_of_lt_of_le hi h.size) hs).trans (h.same i hi hs)⟩
theorem Keep.of_below {S : Nat → Prop} {X Y : World} (h : Below X.heap.size X Y) : Keep S X Y := ⟨h.os, h.tape, h.output, h.size, fun k hk _ => h.block k hk⟩
theorem Keep.mono {S T : Nat → Prop} {X Y : World} (h : Keep S X Y) (hs : ∀ k, S k → T k) : Keep T X Y := ⟨h.os, h.tape, h.output, h.size, fun k hk ht => h.same k hk (fun q => ht (hs k q))⟩
theorem Keep.put {S : Nat → Prop} {X : World} {l : Nat} (o : Obj) (hl : S l) : Keep S X (X.putObj l o) :=
  ⟨rfl, rfl, rfl, by simp, fun k _ hk => World.putObj_heap_other (fun e => hk (e ▸ hl))⟩
theorem Keep.below {S : Nat → Prop} {B : Nat} {X Y : World} (h : Keep S X Y) (hB : B ≤ X.heap.size) (hS : ∀ k, S k → B ≤ k) : Below B X Y :=
  ⟨h.os, h.tape, h.output, h.size, fun k hk => h.same k (by omega) (fun q => by have := hS k q; omega)⟩
theorem Keep.bk {S : Nat → Prop} {X Y : World} (h : Keep S X Y) {g : Nat} {t : TypeId} {cs : Array Value} (hb : Bk X g t cs) (hg : ¬ S g) : Bk Y g t cs := (h.same g hb.lt hg).trans hb

/-- A function that hands over N things, each known ahead. -/
def SeqK (n : Nat) (P : Program) (g : Nat) (lb : Array Value) (enc : Nat → Array Value) (S : Nat → Prop) (N : Nat) (w : World) : Prop :=
  ∀ (l : Nat) (J : Nat → World → Prop) (Z : World → Prop) (W : World), Below w.heap.size w W → (∀ k, S k → k < W.heap.size) → (∀ k X, J k X → W.heap.size ≤ X.heap.size) →
    (∀ k X Y, J k X → Below W.heap.size X Y → J k Y) → (∀ X Y, Z X → Below W.heap.size X Y → Z Y) → (∀ X, Z X → W.heap.size ≤ X.heap.size) →
    (∀ k W1, J k W1 → k < N → YieldAt Fence.wide (n - 1) P l (enc k) W1 fun e W' => (e = .returned (.bool true) ∧ J (k + 1) W' ∧ Keep S W1 W') ∨ (e = .returned (.bool false) ∧ Z W' ∧ Keep S W1 W')) →
    J 0 W → CallsIn Fence.wide n P g (#[.func (.yield l) #[] #[]] ++ lb) W fun e W' => (∃ v, e = .returned v) ∧ (J N W' ∨ Z W')

/-- How the body of a round may be left. -/
def outK (S : Nat → Prop) (go : World → Prop) (Ix : Code → World → Prop) (W : World) : Exit → Act → World → Prop
  | .normal, _, W' => Keep S W W' ∧ go W'
  | .ret, _, W' => Keep S W W' ∧ Ix .ret W'
  | .exit id, _, W' => Keep S W W' ∧ Ix (.exit id) W'
  | _, _, _ => False

theorem range_k {n : Nat} {P : Program} {g : Operand} {ps : Array Tmp} {assign body : Code} {Q : Exit → Act → World → Prop} {a : Act} {w : World} {gf : Nat} {lb : Array Value}
    (hg : a.eval g = .func (.func gf) #[] lb) (eg : ∀ args w, (callFunc gf args).run P w = .ok (.enter gf args) w)
    {enc : Nat → Array Value} {S : Nat → Prop} {N : Nat} (hS : ∀ k, S k → k < w.heap.size) (hseq : SeqK (n - 1) P gf lb enc (fun k => S k ∨ k = w.heap.size ∨ k = w.heap.size + 1) N w) (hps : ∀ k, (enc k).size = ps.size)
    (I : Nat → World → Prop) (Ix : Code → World → Prop) (Ax : Nat → Act → World → Prop) (hI : ∀ k X Y, I k X → Below w.heap.size X Y → I k Y) (hIx : ∀ c X Y, Ix c X → Below w.heap.size X Y → Ix c Y)
    (hA : ∀ k a' X Y, Ax k a' X → Keep (fun b => b = w.heap.size ∨ b = w.heap.size + 1) X Y → Ax k a' Y) (h0 : I 0 w)
    (hround : ∀ (l k : Nat) (W : World), I k W → k < N → w.heap.size + 2 ≤ W.heap.size →
      assign.wpIn (Fence.wide.inRound l) (n - 1 - 1) P (Exit.then (fun a' Wa => Keep S W Wa ∧ I k Wa ∧ Ax k a' Wa) (fun _ _ _ => False))
        { tmps := (ps.zip (enc k)).foldl (fun t (p, v) => t.setIfInBounds p v) a.tmps, defers := [] } W)
    (hbody : ∀ (l k : Nat) (a' : Act) (W : World), I k W → k < N → w.heap.size + 2 ≤ W.heap.size → Ax k a' W →
      body.wpIn (Fence.wide.inRound l) (n - 1 - 1) P (outK S (fun W' => I (k + 1) W') Ix W) a' W)
    (hdone : ∀ (D : Nat) (W : World), w.heap.size ≤ D → I N W → W.heap[D]? = some (.deferred (some [])) → Q .normal { a with defers := { target := .collected D, args := #[] } :: a.defers } W)
    (hstop : ∀ (D : Nat) (c : Code) (W : World), w.heap.size ≤ D → Ix c W → W.heap[D]? = some (.deferred (some [])) → c.wpIn Fence.wide n P Q { a with defers := { target := .collected D, args := #[] } :: a.defers } W) :
    (Code.rangeFunc g ps assign body).wpIn Fence.wide n P Q a w := by
  refine wpIn_rangeFunc fun fn hfn => ?_
  let B := w.heap.size
  let rec_ (st : LoopState) (pe : Option Code) : Loop := { state := st, pending := pe, fn := fn, tmps := a.tmps, params := ps, assign := assign, body := body, defers := B }
  let W1 := (w.alloc (.deferred (some []))).alloc (.loop (rec_ .ready none))
  have s1 : (w.alloc (.deferred (some []))).heap.size = B + 1 := by simp [B]
  have s2 : W1.heap.size = B + 2 := by simp [W1, B]
  have hD1 : W1.heap[B]? = some (.deferred (some [])) := (Below.heap_alloc _ _ _ (by omega)).trans (World.alloc_heap_new w _)
  have hL1 : W1.heap[B + 1]? = some (.loop (rec_ .ready none)) := by rw [← s1]; exact World.alloc_heap_new _ _
  have hb1 : Below w.heap.size w W1 := ((Below.refl _ w).alloc (Nat.le_refl _) _).alloc (by simp) _
  have st : ∀ (X : World) (q : LoopState) (pe : Option Code) (o' : Obj), X.heap[B + 1]? = some (.loop (rec_ q pe)) → Below w.heap.size X (X.putObj (B + 1) o') := fun X q pe o' h =>
    (Keep.put (S := fun k => k = B + 1) o' rfl).below (by have := (Array.getElem?_eq_some_iff.1 h).1; omega) (fun k hk => by omega)
  have sk : ∀ (X : World) (o' : Obj), Keep (fun b => b = w.heap.size ∨ b = w.heap.size + 1) X (X.putObj (B + 1) o') := fun X o' => Keep.put o' (.inr rfl)
  refine ⟨B + 1, [{ target := .collected B, args := #[] }], W1, { target := .fn (.func gf) lb, args := #[.func (.yield (B + 1)) #[] #[]] }, W1, gf, #[.func (.yield (B + 1)) #[] #[]] ++ lb, W1, run_enterLoop_outer _ _ _ _ _, ?_, ?_, ?_, (fun h => by cases h), ?_⟩
  · simp only [resolve, hg]
    simp [go_sem]
  · intro _ _; trivial
  · simp [invoke, go_sem, eg]
  · refine (hseq (B + 1) (fun k X => I k X ∧ X.heap[B + 1]? = some (.loop (rec_ .ready none)) ∧ X.heap[B]? = some (.deferred (some [])) ∧ B + 2 ≤ X.heap.size)
      (fun X => ∃ c, Ix c X ∧ X.heap[B + 1]? = some (.loop (rec_ .done (some c))) ∧ X.heap[B]? = some (.deferred (some [])) ∧ B + 2 ≤ X.heap.size) W1 hb1 ?_ ?_ ?_ ?_ ?_ ?_ ⟨hI _ _ _ h0 hb1, hL1, hD1, by omega⟩).mono ?_
    · rintro k (hk | rfl | rfl)
      · have := hS k hk; omega
      · omega
      · omega
    · rintro k X ⟨_, _, _, h⟩; omega
    · rintro k X Y ⟨h1, h2, h3, h4⟩ hb
      exact ⟨hI _ _ _ h1 (hb.mono (by omega)), (hb.block _ (by omega)).trans h2, (hb.block _ (by omega)).trans h3, by have := hb.size; omega⟩
    · rintro X Y ⟨c, h1, h2, h3, h4⟩ hb
      exact ⟨c, hIx _ _ _ h1 (hb.mono (by omega)), (hb.block _ (by omega)).trans h2, (hb.block _ (by omega)).trans h3, by have := hb.size; omega⟩
    · rintro X ⟨_, _, _, _, h⟩; omega
    · rintro k X ⟨hi, hl, hd, hz⟩ hlen
      refine ⟨fn, _, assign, body, run_yield hl (hps k), roundIn_of_wpIn hfn (wpIn_mono (hround (B + 1) k X hi hlen hz) ?_)⟩
      rintro e a' Xa hp
      cases e with
      | normal =>
        obtain ⟨k1, i1, x1⟩ := hp
        have hl2 := (k1.same (B + 1) (by omega) (fun q => by have := hS _ q; omega)).trans hl
        have hd2 := (k1.same B (by omega) (fun q => by have := hS _ q; omega)).trans hd
        have hz2 : B + 2 ≤ Xa.heap.size := Nat.le_trans hz k1.size
        have hlt : B + 1 < Xa.heap.size := by omega
        have t1 := st Xa .ready none (.loop (rec_ .busy none)) hl2
        have hz3 : B + 2 ≤ (Xa.putObj (B + 1) (.loop (rec_ .busy none))).heap.size := Nat.le_trans hz2 t1.size
        refine ⟨Xa.putObj (B + 1) (.loop (rec_ .busy none)), run_beginRound hl2 rfl, wpIn_mono (hbody (B + 1) k a' _ (hI _ _ _ i1 t1) hlen hz3 (hA _ _ _ _ x1 (sk _ _))) ?_⟩
        have kX : Keep (fun k => S k ∨ k = w.heap.size ∨ k = w.heap.size + 1) X (Xa.putObj (B + 1) (.loop (rec_ .busy none))) := (k1.mono (fun _ q => .inl q)).trans ((sk _ _).mono (fun _ q => .inr q))
        have fin : ∀ (jump : Option Code) (X2 : World), Keep S (Xa.putObj (B + 1) (.loop (rec_ .busy none))) X2 →
            (Instr.endRound (B + 1) jump).run P X2 = .ok (.bool jump.isNone) (X2.putObj (B + 1) (.loop (rec_ (if jump.isNone then .ready else .done) jump))) ∧ X2.heap[B + 1]? = some (.loop (rec_ .busy none)) ∧
            (X2.putObj (B + 1) (.loop (rec_ (if jump.isNone then .ready else .done) jump))).heap[B + 1]? = some (.loop (rec_ (if jump.isNone then .ready else .done) jump)) ∧
            (X2.putObj (B + 1) (.loop (rec_ (if jump.isNone then .ready else .done) jump))).heap[B]? = some (.deferred (some [])) ∧
            B + 2 ≤ (X2.putObj (B + 1) (.loop (rec_ (if jump.isNone then .ready else .done) jump))).heap.size ∧
            Keep (fun k => S k ∨ k = w.heap.size ∨ k = w.heap.size + 1) X (X2.putObj (B + 1) (.loop (rec_ (if jump.isNone then .ready else .done) jump))) := by
          intro jump X2 k2
          have hl3 : X2.heap[B + 1]? = some (.loop (rec_ .busy none)) := (k2.same _ (by omega) (fun q => by have := hS _ q; omega)).trans (World.putObj_heap_same hlt)
          have hd3 : X2.heap[B]? = some (.deferred (some [])) := (k2.same _ (by omega) (fun q => by have := hS _ q; omega)).trans ((World.putObj_heap_other (by omega)).trans hd2)
          exact ⟨run_endRound jump hl3, hl3, World.putObj_heap_same (Array.getElem?_eq_some_iff.1 hl3).1, (World.putObj_heap_other (by omega)).trans hd3, Nat.le_trans (Nat.le_trans hz3 k2.size) (st X2 .busy none _ hl3).size,
            kX.trans ((k2.mono (fun _ q => .inl q)).trans ((sk _ _).mono (fun _ q => .inr q)))⟩
        rintro e2 a2 X2 h2
        cases e2 with
        | normal =>
          obtain ⟨k2, i2⟩ := h2
          obtain ⟨hr, hl3, hl4, hd4, hz4, hk4⟩ := fin none X2 k2
          exact ⟨_, _, hr, .inl ⟨rfl, ⟨hI _ _ _ i2 (st X2 .busy none (.loop (rec_ .ready none)) hl3), hl4, hd4, hz4⟩, hk4⟩⟩
        | ret =>
          obtain ⟨k2, i2⟩ := h2
          obtain ⟨hr, hl3, hl4, hd4, hz4, hk4⟩ := fin (some .ret) X2 k2
          exact ⟨_, _, hr, .inr ⟨rfl, ⟨.ret, hIx _ _ _ i2 (st X2 .busy none (.loop (rec_ .done (some .ret))) hl3), hl4, hd4, hz4⟩, hk4⟩⟩
        | exit id =>
          obtain ⟨k2, i2⟩ := h2
          obtain ⟨hr, hl3, hl4, hd4, hz4, hk4⟩ := fin (some (.exit id)) X2 k2
          exact ⟨_, _, hr, .inr ⟨rfl, ⟨.exit id, hIx _ _ _ i2 (st X2 .busy none (.loop (rec_ .done (some (.exit id)))) hl3), hl4, hd4, hz4⟩, hk4⟩⟩
        | goto t => exact h2.elim
        | panic ch => exact h2.elim
        | outgrown => exact h2.elim
      | exit id => exact hp.elim
      | goto t => exact hp.elim
      | ret => exact hp.elim
      | panic ch => exact hp.elim
      | outgrown => exact hp.elim
    · rintro e X ⟨⟨v, rfl⟩, ⟨hi, hl, hd, hz⟩ | ⟨c, hi, hl, hd, hz⟩⟩
      · have t3 := st X .ready none (.loop { rec_ .ready none with state := .exhausted }) hl
        exact ⟨none, _, run_endLoop hl (by simp [rec_]), hdone B _ (Nat.le_refl _) (hI _ _ _ hi t3) ((World.putObj_heap_other (by omega)).trans hd)⟩
      · have t3 := st X .done (some c) (.loop { rec_ .done (some c) with state := .exhausted }) hl
        exact ⟨some c, _, run_endLoop hl (by simp [rec_]), hstop B c _ (Nat.le_refl _) (hIx _ _ _ hi t3) ((World.putObj_heap_other (by omega)).trans hd)⟩

/-- A round's contract at whatever depth, in whatever round. -/
theorem RoundIn.wide {m m' l l' : Nat} {P : Program} {f : FuncId} {tmps : Array Value} {assign body : Code} {w : World} {R : Ending → World → Prop}
    (h : RoundIn Fence.wide m P l f tmps assign body w R) : RoundIn (Fence.wide.inRound l') m' P l f tmps assign body w R :=
  ⟨trivial, fun c cs _ => h.2 c cs (room_wide _)⟩

end Go.Proofs.Ytpfnoohcilefhaa

/-
  A range over a function that goes on from one number to the next one by a function, as long as there are such (0 and more), the body of which may leave early (as XRs, where links lie in a list). Over no program.
-/
import Derived.Test.YtkffmohgnbnhkaaRs
namespace Go.Proofs.Ytkffmohgnbnhkaa
open Go.RowKit

/-- Nodes are handed over from at0 on, by next, as long as there are such; yield may say 'no more'. -/
def SeqW (n : Nat) (P : Program) (g : Nat) (lb : Array Value) (Kp : World → World → Prop) (f : Int → Int) (at0 : Int) (w : World) : Prop :=
  ∀ (l : Nat) (J : Nat → Int → World → Prop) (Z : World → Prop) (W : World), Below w.heap.size w W → (∀ k x X Y, J k x X → Below X.heap.size X Y → J k x Y) →
    (∀ k x W1, J k x W1 → 0 ≤ x → YieldAt Fence.wide (n - 1) P l #[.int .i64 x] W1 fun e W' => (e = .returned (.bool true) ∧ (∃ k', k' < k ∧ J k' (f x) W') ∧ Kp W1 W') ∨ (e = .returned (.bool false) ∧ Z W')) →
    ∀ k0, J k0 at0 W → CallsIn Fence.wide n P g (#[.func (.yield l) #[] #[]] ++ lb) W fun e W' => (∃ v, e = .returned v) ∧ ((∃ k x, x < 0 ∧ J k x W') ∨ Z W')

theorem range_way {n : Nat} {P : Program} {g : Operand} {ps : Array Tmp} {assign body : Code} {Q : Exit → Act → World → Prop} {a : Act} {w : World} {gf : Nat} {lb : Array Value}
    (hg : a.eval g = .func (.func gf) #[] lb) (eg : ∀ args w, (callFunc gf args).run P w = .ok (.enter gf args) w)
    {Kp : World → World → Prop} {f : Int → Int} {at0 : Int} (hseq : SeqW (n - 1) P gf lb Kp f at0 w) (hps : ps.size = 1)
    (I : Nat → Int → World → Prop) (Ix : Code → World → Prop) (Ax : Int → Act → World → Prop) (hI : ∀ k x X Y, I k x X → Turn w.heap.size X Y → I k x Y) (hIx : ∀ c X Y, Ix c X → Turn w.heap.size X Y → Ix c Y)
    (hA : ∀ x a' X Y, Ax x a' X → Turn w.heap.size X Y → Ax x a' Y) (hK : ∀ X Y, w.heap.size ≤ X.heap.size → Turn w.heap.size X Y → Kp X Y) (hKt : ∀ {X Y Z}, Kp X Y → Kp Y Z → Kp X Z) (k0 : Nat) (h0 : I k0 at0 w)
    (hround : ∀ (l k : Nat) (x : Int) (W : World), I k x W → 0 ≤ x →
      assign.wpIn (Fence.wide.inRound l) (n - 1 - 1) P (Exit.then (fun a' Wa => KeepsFrom w.heap.size W Wa ∧ Kp W Wa ∧ I k x Wa ∧ Ax x a' Wa) (fun _ _ _ => False))
        { tmps := (ps.zip #[.int .i64 x]).foldl (fun t (p, v) => t.setIfInBounds p v) a.tmps, defers := [] } W)
    (hbody : ∀ (l k : Nat) (x : Int) (a' : Act) (W : World), I k x W → 0 ≤ x → Ax x a' W →
      body.wpIn (Fence.wide.inRound l) (n - 1 - 1) P (outN w.heap.size Kp (fun W' => ∃ k', k' < k ∧ I k' (f x) W') Ix W) a' W)
    (hdone : ∀ (D k : Nat) (x : Int) (W : World), w.heap.size ≤ D → x < 0 → I k x W → W.heap[D]? = some (.deferred (some [])) → Q .normal { a with defers := { target := .collected D, args := #[] } :: a.defers } W)
    (hstop : ∀ (D : Nat) (c : Code) (W : World), w.heap.size ≤ D → Ix c W → W.heap[D]? = some (.deferred (some [])) → c.wpIn Fence.wide n P Q { a with defers := { target := .collected D, args := #[] } :: a.defers } W) :
    (Code.rangeFunc g ps assign body).wpIn Fence.wide n P Q a w := by
  refine wpIn_rangeFunc fun fn hfn => ?_
  let B := w.heap.size
  let rec_ (st : LoopState) (pe : Option Code) : Loop := { state := st, pending := pe, fn := fn, tmps := a.tmps, params := ps, assign := assign, body := body, defers := B }
  let W1 := (w.alloc (.deferred (some []))).alloc (.loop (rec_ .ready none))
  have s1 : (w.alloc (.deferred (some []))).heap.size = B + 1 := by simp [B]
  have hD1 : W1.heap[B]? = some (.deferred (some [])) := (Below.heap_alloc _ _ _ (by omega)).trans (World.alloc_heap_new w _)
  have hL1 : W1.heap[B + 1]? = some (.loop (rec_ .ready none)) := by rw [← s1]; exact World.alloc_heap_new _ _
  have hb1 : Below w.heap.size w W1 := ((Below.refl _ w).alloc (Nat.le_refl _) _).alloc (by simp) _
  have st : ∀ (X : World) (q : LoopState) (pe : Option Code) (o' : Obj), X.heap[B + 1]? = some (.loop (rec_ q pe)) → Turn w.heap.size X (X.putObj (B + 1) o') := fun X q pe o' h => Turn.put o' h (by simp [B]) rfl
  refine ⟨B + 1, [{ target := .collected B, args := #[] }], W1, { target := .fn (.func gf) lb, args := #[.func (.yield (B + 1)) #[] #[]] }, W1, gf, #[.func (.yield (B + 1)) #[] #[]] ++ lb, W1, run_enterLoop_outer _ _ _ _ _, ?_, ?_, ?_, (fun h => by cases h), ?_⟩
  · simp only [resolve, hg]
    simp [go_sem]
  · intro _ _; trivial
  · simp [invoke, go_sem, eg]
  · refine (hseq (B + 1) (fun k x X => I k x X ∧ X.heap[B + 1]? = some (.loop (rec_ .ready none)) ∧ X.heap[B]? = some (.deferred (some [])))
      (fun X => ∃ c, Ix c X ∧ X.heap[B + 1]? = some (.loop (rec_ .done (some c))) ∧ X.heap[B]? = some (.deferred (some []))) W1 hb1 ?_ ?_ k0 ⟨hI _ _ _ _ h0 (Turn.of_below hb1), hL1, hD1⟩).mono ?_
    · rintro k x X Y ⟨h1, h2, h3⟩ hb
      exact ⟨hI _ _ _ _ h1 (Turn.of_below hb), (hb.block _ (Array.getElem?_eq_some_iff.1 h2).1).trans h2, (hb.block _ (Array.getElem?_eq_some_iff.1 h3).1).trans h3⟩
    · rintro k x X ⟨hi, hl, hd⟩ hx0
      refine ⟨fn, _, assign, body, run_yield hl (by simp [rec_, hps]), roundIn_of_wpIn hfn (wpIn_mono (hround (B + 1) k x X hi hx0) ?_)⟩
      rintro e a' Xa hp
      cases e with
      | normal =>
        obtain ⟨k1, p1, i1, x1⟩ := hp
        have hl2 := k1.same _ _ (show w.heap.size ≤ B + 1 by simp [B]) hl rfl
        have hd2 := k1.same _ _ (show w.heap.size ≤ B by simp [B]) hd rfl
        have hlt : B + 1 < Xa.heap.size := (Array.getElem?_eq_some_iff.1 hl2).1
        have t1 := st Xa .ready none (.loop (rec_ .busy none)) hl2
        refine ⟨Xa.putObj (B + 1) (.loop (rec_ .busy none)), run_beginRound hl2 rfl, wpIn_mono (hbody (B + 1) k x a' _ (hI _ _ _ _ i1 t1) hx0 (hA _ _ _ _ x1 t1)) ?_⟩
        have fin : ∀ (jump : Option Code) (X2 : World), KeepsFrom w.heap.size (Xa.putObj (B + 1) (.loop (rec_ .busy none))) X2 →
            (Instr.endRound (B + 1) jump).run P X2 = .ok (.bool jump.isNone) (X2.putObj (B + 1) (.loop (rec_ (if jump.isNone then .ready else .done) jump))) ∧ X2.heap[B + 1]? = some (.loop (rec_ .busy none)) ∧
            (X2.putObj (B + 1) (.loop (rec_ (if jump.isNone then .ready else .done) jump))).heap[B + 1]? = some (.loop (rec_ (if jump.isNone then .ready else .done) jump)) ∧
            (X2.putObj (B + 1) (.loop (rec_ (if jump.isNone then .ready else .done) jump))).heap[B]? = some (.deferred (some [])) := by
          intro jump X2 k2
          have hl3 : X2.heap[B + 1]? = some (.loop (rec_ .busy none)) := k2.same _ _ (by simp [B]) (World.putObj_heap_same hlt) rfl
          have hd3 : X2.heap[B]? = some (.deferred (some [])) := k2.same _ _ (by simp [B]) ((World.putObj_heap_other (by omega)).trans hd2) rfl
          exact ⟨run_endRound jump hl3, hl3, World.putObj_heap_same (Array.getElem?_eq_some_iff.1 hl3).1, (World.putObj_heap_other (by omega)).trans hd3⟩
        rintro e2 a2 X2 h2
        cases e2 with
        | normal =>
          obtain ⟨k2, p2, k', hk', i2⟩ := h2
          obtain ⟨hr, hl3, hl4, hd4⟩ := fin none X2 k2
          have t2 := st X2 .busy none (.loop (rec_ .ready none)) hl3
          exact ⟨_, _, hr, .inl ⟨rfl, ⟨k', hk', hI _ _ _ _ i2 t2, hl4, hd4⟩, hKt p1 (hKt (hKt (hK _ _ (by simp [B] at hlt; omega) t1) p2) (hK _ _ (by have := (Array.getElem?_eq_some_iff.1 hl3).1; simp [B] at this; omega) t2))⟩⟩
        | ret =>
          obtain ⟨k2, i2⟩ := h2
          obtain ⟨hr, hl3, hl4, hd4⟩ := fin (some .ret) X2 k2
          exact ⟨_, _, hr, .inr ⟨rfl, .ret, hIx _ _ _ i2 (st X2 .busy none (.loop (rec_ .done (some .ret))) hl3), hl4, hd4⟩⟩
        | exit id =>
          obtain ⟨k2, i2⟩ := h2
          obtain ⟨hr, hl3, hl4, hd4⟩ := fin (some (.exit id)) X2 k2
          exact ⟨_, _, hr, .inr ⟨rfl, .exit id, hIx _ _ _ i2 (st X2 .busy none (.loop (rec_ .done (some (.exit id)))) hl3), hl4, hd4⟩⟩
        | goto t => exact h2.elim
        | panic ch => exact h2.elim
        | outgrown => exact h2.elim
      | exit id => exact hp.elim
      | goto t => exact hp.elim
      | ret => exact hp.elim
      | panic ch => exact hp.elim
      | outgrown => exact hp.elim
    · rintro e X ⟨⟨v, rfl⟩, ⟨k, x, hx, hi, hl, hd⟩ | ⟨c, hi, hl, hd⟩⟩
      · have t3 := st X .ready none (.loop { rec_ .ready none with state := .exhausted }) hl
        exact ⟨none, _, run_endLoop hl (by simp [rec_]), hdone B k x _ (Nat.le_refl _) hx (hI _ _ _ _ hi t3) ((World.putObj_heap_other (by omega)).trans hd)⟩
      · have t3 := st X .done (some c) (.loop { rec_ .done (some c) with state := .exhausted }) hl
        exact ⟨some c, _, run_endLoop hl (by simp [rec_]), hstop B c _ (Nat.le_refl _) (hIx _ _ _ hi t3) ((World.putObj_heap_other (by omega)).trans hd)⟩

end Go.Proofs.Ytkffmohgnbnhkaa

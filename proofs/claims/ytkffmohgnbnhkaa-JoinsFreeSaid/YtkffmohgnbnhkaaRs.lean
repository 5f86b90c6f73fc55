/-
  A range over a function that goes through nodes by their links, the body of which may leave early: the iterator promises to go from node to node, the body tells by a number that falls that it will not go for ever. Over no program.
-/
import Derived.Test.YtkffmohgnbnhkaaRange
import Derived.Test.YtkffmohgnbnhkaaBase
namespace Go.Proofs.Ytkffmohgnbnhkaa
open Go.RowKit

/-- Nodes are handed over from at0 on, by next, as long as there are such; yield may say 'no more'. -/
def SeqN (n : Nat) (P : Program) (g : Nat) (lb : Array Value) (Kp : World → World → Prop) (at0 : Int) (next : List Int) (w : World) : Prop :=
  ∀ (l : Nat) (J : Nat → Int → World → Prop) (Z : World → Prop) (W : World), Below w.heap.size w W → (∀ k x X Y, J k x X → Below X.heap.size X Y → J k x Y) →
    (∀ k x W1, J k x W1 → 0 ≤ x → x < (next.length : Int) → YieldAt Fence.wide (n - 1) P l #[.int .i64 x] W1 fun e W' => (e = .returned (.bool true) ∧ (∃ k', k' < k ∧ J k' (nth next x.toNat) W') ∧ Kp W1 W') ∨ (e = .returned (.bool false) ∧ Z W')) →
    ∀ k0, J k0 at0 W → CallsIn Fence.wide n P g (#[.func (.yield l) #[] #[]] ++ lb) W fun e W' => (∃ v, e = .returned v) ∧ ((∃ k x, (x < 0 ∨ (next.length : Int) ≤ x) ∧ J k x W') ∨ Z W')

/-- How the body of a round may be left. -/
def outN (B : Nat) (Kp : World → World → Prop) (go : World → Prop) (Ix : Code → World → Prop) (W : World) : Exit → Act → World → Prop
  | .normal, _, W' => KeepsFrom B W W' ∧ Kp W W' ∧ go W'
  | .ret, _, W' => KeepsFrom B W W' ∧ Ix .ret W'
  | .exit id, _, W' => KeepsFrom B W W' ∧ Ix (.exit id) W'
  | _, _, _ => False

theorem range_nodes {n : Nat} {P : Program} {g : Operand} {ps : Array Tmp} {assign body : Code} {Q : Exit → Act → World → Prop} {a : Act} {w : World} {gf : Nat} {lb : Array Value}
    (hg : a.eval g = .func (.func gf) #[] lb) (eg : ∀ args w, (callFunc gf args).run P w = .ok (.enter gf args) w)
    {Kp : World → World → Prop} {at0 : Int} {next : List Int} (hseq : SeqN (n - 1) P gf lb Kp at0 next w) (hps : ps.size = 1)
    (I : Nat → Int → World → Prop) (Ix : Code → World → Prop) (Ax : Int → Act → World → Prop) (hI : ∀ k x X Y, I k x X → Turn w.heap.size X Y → I k x Y) (hIx : ∀ c X Y, Ix c X → Turn w.heap.size X Y → Ix c Y)
    (hA : ∀ x a' X Y, Ax x a' X → Turn w.heap.size X Y → Ax x a' Y) (hK : ∀ X Y, w.heap.size ≤ X.heap.size → Turn w.heap.size X Y → Kp X Y) (hKt : ∀ {X Y Z}, Kp X Y → Kp Y Z → Kp X Z) (k0 : Nat) (h0 : I k0 at0 w)
    (hround : ∀ (l k : Nat) (x : Int) (W : World), I k x W → 0 ≤ x → x < (next.length : Int) →
      assign.wpIn (Fence.wide.inRound l) (n - 1 - 1) P (Exit.then (fun a' Wa => KeepsFrom w.heap.size W Wa ∧ Kp W Wa ∧ I k x Wa ∧ Ax x a' Wa) (fun _ _ _ => False))
        { tmps := (ps.zip #[.int .i64 x]).foldl (fun t (p, v) => t.setIfInBounds p v) a.tmps, defers := [] } W)
    (hbody : ∀ (l k : Nat) (x : Int) (a' : Act) (W : World), I k x W → 0 ≤ x → x < (next.length : Int) → Ax x a' W →
      body.wpIn (Fence.wide.inRound l) (n - 1 - 1) P (outN w.heap.size Kp (fun W' => ∃ k', k' < k ∧ I k' (nth next x.toNat) W') Ix W) a' W)
    (hdone : ∀ (D k : Nat) (x : Int) (W : World), w.heap.size ≤ D → (x < 0 ∨ (next.length : Int) ≤ x) → I k x W → W.heap[D]? = some (.deferred (some [])) → Q .normal { a with defers := { target := .collected D, args := #[] } :: a.defers } W)
    (hstop : ∀ (D : Nat) (c : Code) (W : World), w.heap.size ≤ D → Ix c W → W.heap[D]? = some (.deferred (some [])) → c.wpIn Fence.wide n P Q { a with defers := { target := .collected D, args := #[] } :: a.defers } W) :
    (Code.rangeFunc g ps assign body).wpIn Fence.wide n P Q a w := by
  refine wpIn_rangeFunc fun fn hfn => ?_
  let B := w.heap.size
  let rec_ (st : LoopState) (pe : Option Code) : Loop := { state := st, pending := pe, fn := fn, tmps := a.tmps, params := ps, assign := assign, body := body, defers := B }
  let W1 := (w.alloc (.deferred (some []))).alloc (.loop (rec_ .ready none))
  have s1 : (w.alloc (.deferred (some []))).heap.size = B + 1 := by simp [B]
  have hD1 : W1.heap[B]? = some (.deferred (some [])) := (Below.heap_alloc _ _ _ (by omega)).trans (World.alloc_heap_new w _)
  have hL1 : W1.heap[B + 1]? = some (.loop (rec_ .ready none)) := by rw [← s1]; exact World.alloc_heap_new _ _
  have hb1 : Below w.heap.size w W1 := ((Below.refl _ w).alloc (Nat.le_refl _) _).alloc (by simp) _
  have st : ∀ (X : World) (q : LoopState) (pe : Option Code) (o' : Obj), X.heap[B + 1]? = some (.loop (rec_ q pe)) → Turn w.heap.size X (X.putObj (B + 1) o') := fun X q pe o' h => Turn.put o' h (by simp [B]) rfl
  refine ⟨B + 1, [{ target := .collected B, args := #[] }], W1, { target := .fn (.func gf) lb, args := #[.func (.yield (B + 1)) #[] #[]] }, W1, gf, #[.func (.yield (B + 1)) #[] #[]] ++ lb, W1, run_enterLoop_outer _ _ _ _ _, ?_, ?_, ?_, (fun h => by cases h), ?_⟩
  · simp only [resolve, hg]
    simp [go_sem]
  · intro _ _; trivial
  · simp [invoke, go_sem, eg]
  · refine (hseq (B + 1) (fun k x X => I k x X ∧ X.heap[B + 1]? = some (.loop (rec_ .ready none)) ∧ X.heap[B]? = some (.deferred (some [])))
      (fun X => ∃ c, Ix c X ∧ X.heap[B + 1]? = some (.loop (rec_ .done (some c))) ∧ X.heap[B]? = some (.deferred (some []))) W1 hb1 ?_ ?_ k0 ⟨hI _ _ _ _ h0 (Turn.of_below hb1), hL1, hD1⟩).mono ?_
    · rintro k x X Y ⟨h1, h2, h3⟩ hb
      exact ⟨hI _ _ _ _ h1 (Turn.of_below hb), (hb.block _ (Array.getElem?_eq_some_iff.1 h2).1).trans h2, (hb.block _ (Array.getElem?_eq_some_iff.1 h3).1).trans h3⟩
    · rintro k x X ⟨hi, hl, hd⟩ hx0 hx1
      refine ⟨fn, _, assign, body, run_yield hl (by simp [rec_, hps]), roundIn_of_wpIn hfn (wpIn_mono (hround (B + 1) k x X hi hx0 hx1) ?_)⟩
      rintro e a' Xa hp
      cases e with
      | normal =>
        obtain ⟨k1, p1, i1, x1⟩ := hp
        have hl2 := k1.same _ _ (show w.heap.size ≤ B + 1 by simp [B]) hl rfl
        have hd2 := k1.same _ _ (show w.heap.size ≤ B by simp [B]) hd rfl
        have hlt : B + 1 < Xa.heap.size := (Array.getElem?_eq_some_iff.1 hl2).1
        have t1 := st Xa .ready none (.loop (rec_ .busy none)) hl2
        refine ⟨Xa.putObj (B + 1) (.loop (rec_ .busy none)), run_beginRound hl2 rfl, wpIn_mono (hbody (B + 1) k x a' _ (hI _ _ _ _ i1 t1) hx0 hx1 (hA _ _ _ _ x1 t1)) ?_⟩
        have fin : ∀ (jump : Option Code) (X2 : World), KeepsFrom w.heap.size (Xa.putObj (B + 1) (.loop (rec_ .busy none))) X2 →
            (Instr.endRound (B + 1) jump).run P X2 = .ok (.bool jump.isNone) (X2.putObj (B + 1) (.loop (rec_ (if jump.isNone then .ready else .done) jump))) ∧ X2.heap[B + 1]? = some (.loop (rec_ .busy none)) ∧
            (X2.putObj (B + 1) (.loop (rec_ (if jump.isNone then .ready else .done) jump))).heap[B + 1]? = some (.loop (rec_ (if jump.isNone then .ready else .done) jump)) ∧
            (X2.putObj (B + 1) (.loop (rec_ (if jump.isNone then .ready else .done) jump))).heap[B]? = some (.deferred (some [])) := by
          intro jump X2 k2
          have hl3 : X2.heap[B + 1]? = some (.loop (rec_ .busy none)) := k2.same _ _ (by simp [B]) (World.putObj_heap_same hlt) rfl
          have hd3 : X2.heap[B]? = some (.deferred (some [])) := k2.same _ _ (by simp [B]) ((World.putObj_heap_other (by omega)).trans hd2) rfl
          exact ⟨run_endRound jump hl3, hl3, World.putObj_heap_same (Array.getElem?_eq_some_iff.1 hl3).1, (World.putObj_heap_other (by omega)).trans hd3⟩
        rintro e2 a2 X2 h2
        cases e2 with
        | normal =>
          obtain ⟨k2, p2, k', hk', i2⟩ := h2
          obtain ⟨hr, hl3, hl4, hd4⟩ := fin none X2 k2
          have t2 := st X2 .busy none (.loop (rec_ .ready none)) hl3
          exact ⟨_, _, hr, .inl ⟨rfl, ⟨k', hk', hI _ _ _ _ i2 t2, hl4, hd4⟩, hKt p1 (hKt (hKt (hK _ _ (by simp [B] at hlt; omega) t1) p2) (hK _ _ (by have := (Array.getElem?_eq_some_iff.1 hl3).1; simp [B] at this; omega) t2))⟩⟩
        | ret =>
          obtain ⟨k2, i2⟩ := h2
          obtain ⟨hr, hl3, hl4, hd4⟩ := fin (some .ret) X2 k2
          exact ⟨_, _, hr, .inr ⟨rfl, .ret, hIx _ _ _ i2 (st X2 .busy none (.loop (rec_ .done (some .ret))) hl3), hl4, hd4⟩⟩
        | exit id =>
          obtain ⟨k2, i2⟩ := h2
          obtain ⟨hr, hl3, hl4, hd4⟩ := fin (some (.exit id)) X2 k2
          exact ⟨_, _, hr, .inr ⟨rfl, .exit id, hIx _ _ _ i2 (st X2 .busy none (.loop (rec_ .done (some (.exit id)))) hl3), hl4, hd4⟩⟩
        | goto t => exact h2.elim
        | panic ch => exact h2.elim
        | outgrown => exact h2.elim
      | exit id => exact hp.elim
      | goto t => exact hp.elim
      | ret => exact hp.elim
      | panic ch => exact hp.elim
      | outgrown => exact hp.elim
    · rintro e X ⟨⟨v, rfl⟩, ⟨k, x, hx, hi, hl, hd⟩ | ⟨c, hi, hl, hd⟩⟩
      · have t3 := st X .ready none (.loop { rec_ .ready none with state := .exhausted }) hl
        exact ⟨none, _, run_endLoop hl (by simp [rec_]), hdone B k x _ (Nat.le_refl _) hx (hI _ _ _ _ hi t3) ((World.putObj_heap_other (by omega)).trans hd)⟩
      · have t3 := st X .done (some c) (.loop { rec_ .done (some c) with state := .exhausted }) hl
        exact ⟨some c, _, run_endLoop hl (by simp [rec_]), hstop B c _ (Nat.le_refl _) (hIx _ _ _ hi t3) ((World.putObj_heap_other (by omega)).trans hd)⟩

/-- Marks of ranges that are over, newest first. -/
def Marks (B : Nat) (w : World) : List Deferred → Prop
  | [] => True
  | d :: ds => ∃ D, d = { target := .collected D, args := #[] } ∧ B ≤ D ∧ w.heap[D]? = some (.deferred (some [])) ∧ (∀ E, B ≤ E → w.heap[E]? ≠ none → ({ target := .collected E, args := #[] } : Deferred) ∈ ds → E < D) ∧ Marks B w ds
theorem Marks.mem {B : Nat} {w : World} : ∀ {ds : List Deferred}, Marks B w ds → ∀ d ∈ ds, ∃ D, d = { target := .collected D, args := #[] } ∧ B ≤ D ∧ w.heap[D]? = some (.deferred (some []))
  | d :: ds, ⟨D, e, h1, h2, _, h4⟩, d', hd => by
    rcases List.mem_cons.1 hd with rfl | hd
    · exact ⟨D, e, h1, h2⟩
    · exact Marks.mem h4 d' hd
theorem Marks.kept {B : Nat} {w w' : World} : ∀ {ds : List Deferred}, Marks B w ds → (∀ D, ({ target := .collected D, args := #[] } : Deferred) ∈ ds → w.heap[D]? = some (.deferred (some [])) → w'.heap[D]? = some (.deferred (some []))) → Marks B w' ds
  | [], _, _ => trivial
  | d :: ds, ⟨D, e, h1, h2, h3, h4⟩, hk => by
    refine ⟨D, e, h1, hk D (by rw [e]; exact List.mem_cons_self ..) h2, fun E hE _ hm => ?_, Marks.kept h4 fun E hE hh => hk E (List.mem_cons_of_mem _ hE) hh⟩
    obtain ⟨E', e', h5, h6⟩ := Marks.mem h4 _ hm
    injection e' with e' _
    injection e' with e'
    subst e'
    exact h3 E hE (by rw [h6]; simp) hm
theorem Marks.push {B D : Nat} {w : World} {ds : List Deferred} (h : Marks B w ds) (hB : B ≤ D) (hd : w.heap[D]? = some (.deferred (some []))) (hl : ∀ E, ({ target := .collected E, args := #[] } : Deferred) ∈ ds → E < D) : Marks B w ({ target := .collected D, args := #[] } :: ds) :=
  ⟨D, rfl, hB, hd, fun E _ _ hm => hl E hm, h⟩
theorem Marks.lt {B : Nat} {w : World} {ds : List Deferred} (h : Marks B w ds) {E : Nat} (hm : ({ target := .collected E, args := #[] } : Deferred) ∈ ds) : E < w.heap.size := by
  obtain ⟨E', e', h5, h6⟩ := Marks.mem h _ hm
  injection e' with e' _
  injection e' with e'
  subst e'
  exact (Array.getElem?_eq_some_iff.1 h6).1

/-- A function leaves through its marks: each is shut. -/
theorem leaves_marks {F : Fence} {n : Nat} {P : Program} {fn : Func} {tmps : Array Value} {R : Ending → World → Prop} {B : Nat} : ∀ (ds : List Deferred) (w : World), Marks B w ds → (∀ w', Turn B w w' → LeavesIn F n P fn tmps R [] .returning w') → LeavesInM F n P fn tmps R ds .returning w
  | [], w, _, h => h w ⟨rfl, rfl, rfl, Nat.le_refl _, fun _ _ h _ => h⟩
  | d :: ds, w, ⟨D, e, h1, h2, h3, h4⟩, h => by
    subst e
    refine ⟨by simp, .inl ⟨D, _, rfl, run_takeDeferred h2, ?_⟩⟩
    have t1 : Turn B w (w.putObj D (.deferred none)) := Turn.put _ h2 h1 rfl
    refine leaves_marks ds _ (Marks.kept h4 fun E hE hh => (World.putObj_heap_other ?_).trans hh) fun w' ht => h w' (t1.trans ht)
    obtain ⟨E', e', h5, h6⟩ := Marks.mem h4 _ hE
    injection e' with e' _
    injection e' with e'
    subst e'
    have := h3 E h5 (by rw [h6]; simp) hE
    omega

end Go.Proofs.Ytkffmohgnbnhkaa

/-
  An access of another one at a deque: it may be, and what stays true stays true; an owner, and others, begin anew (the document's layer 7): plain mathematics, over no program.
-/
import Derived.Test.YtfmiamjbhlglbaaRgP
namespace Go.Proofs.Ytfmiamjbhlglbaa

section
variable {ms ms' : List Int} {base cap tp tp' lb lb' nx : Nat} {o o' h x : Hd} {G : Int → Nat}

/-- The owner, where another one takes the first number. -/
theorem OwI.taken (r : RgI ms base cap tp lb) (w : OwI ms base cap tp lb o) (hl : tp < lb) (h2 : Takes o lb → tp + 1 < lb) : OwI (ms.set base ((tp : Int) + 1)) base cap (tp + 1) lb o := by
  have hb := bot_top r ((tp : Int) + 1)
  have hsl := slV_top r ((tp : Int) + 1)
  cases w with
  | idle h b => exact .idle h (hb.trans b)
  | push0 a b c d => exact .push0 a b c (hb.trans d)
  | push1 a b c d e f => exact .push1 a b c (hb.trans d) e (by omega)
  | push2 a b c d e f g i => exact .push2 a b c (hb.trans d) e (by omega) g i
  | push3 a b c d e f g i j => exact .push3 a b c (hb.trans d) e (by omega) g i ((hsl lb).trans j)
  | pop0 a b c d => exact .pop0 a b c (hb.trans d)
  | pop1 a b c d e => exact .pop1 a b c (hb.trans d) e
  | pop2 a b c d e => exact .pop2 a b c (hb.trans d) e
  | pop3 a b c d e f g => omega
  | pop4 a b c d e f g i j => exact .pop4 a b c (hb.trans d) e f (by omega) i (fun q => by have := h2 ⟨a, b, c, q⟩; omega)
  | pop5 a b c d e f g i j => exact .pop5 a b c (hb.trans d) e f (by omega) i (j.trans (hsl (lb - 1)).symm)
  | pop6 a b c d e f g => omega

/-- What another one's access comes to. -/
structure ThStep (ms : List Int) (base cap tp lb : Nat) (o h : Hd) (G : Int → Nat) (nx : Nat) (ms' : List Int) (h' : Hd) (tp' : Nat) : Prop where
  rg : RgI ms' base cap tp' lb
  ow : OwI ms' base cap tp' lb o
  me : ThI ms' base cap tp' lb o h'
  th : ∀ x, ThI ms base cap tp lb o x → ThI ms' base cap tp' lb o x
  va : VaI ms' base cap tp' lb o (gotH G h') nx
  kind : h'.kind = h.kind
  len : ms'.length = ms.length
  pc : h'.state ≠ 0 ∨ h.pc < h'.pc

theorem other_steal (r : RgI ms base cap tp lb) (w : OwI ms base cap tp lb o) (me : ThI ms base cap tp lb o h) (va : VaI ms base cap tp lb o G nx) (hk : h.kind = 3) (hs : h.state = 0) (hf : nx ≤ 1000000) :
    ∃ ms' h' tp', accF ms base cap h = some (ms', h') ∧ ThStep ms base cap tp lb o h G nx ms' h' tp' := by
  have hlbn := va.lbn
  have hle := r.le
  have hroom := r.room
  have htop := r.top
  have hacc : accF ms base cap h = stealF ms base cap h := by rw [accF, if_neg (by omega), if_neg (by omega)]
  rw [hacc]
  have hbot : -1 ≤ nth ms (base + 1) ∧ nth ms (base + 1) ≤ lb := by
    cases w <;> omega
  cases me with
  | idle h0 => omega
  | steal0 _ _ hp =>
    refine ⟨ms, { h with t := nth ms base, pc := 1 }, tp, ?_, r, w, .steal1 hk hs rfl (by simp only []; omega) (by simp only []; omega), fun x hx => hx, ?_, rfl, rfl, .inr (by simp only []; omega)⟩
    · rw [stealF, if_pos hp, if_pos (by rw [htop]; unfold cntOk; omega)]
    · have : gotH G { h with t := nth ms base, pc := 1 } = G := if_neg (by simp only []; omega)
      rw [this]; exact va
  | steal1 _ _ hp h0 ht =>
    by_cases hc : nth ms (base + 1) - h.t < 1
    · refine ⟨ms, { h with b := nth ms (base + 1), state := 2 }, tp, ?_, r, w, .idle (.inr (by simp)), fun x hx => hx, ?_, rfl, rfl, .inl (by simp)⟩
      · rw [stealF, if_neg (by omega), if_pos hp, if_pos (by unfold cntOk; omega), if_pos hc]
      · have : gotH G { h with b := nth ms (base + 1), state := 2 } = G := if_neg (by simp)
        rw [this]; exact va
    · refine ⟨ms, { h with b := nth ms (base + 1), pc := 2 }, tp, ?_, r, w, .steal2 hk hs rfl h0 ht (fun e => ?_) (fun e q => ?_), fun x hx => hx, ?_, rfl, rfl, .inr (by simp only []; omega)⟩
      · rw [stealF, if_neg (by omega), if_pos hp, if_pos (by unfold cntOk; omega), if_neg hc]
      · simp only [] at e; omega
      · simp only [] at e
        obtain ⟨q1, q2, q3, q4⟩ := q
        cases w with
        | idle a _ => omega
        | push0 a => omega
        | push1 a => omega
        | push2 a => omega
        | push3 a => omega
        | pop0 a b c => omega
        | pop1 a b c => omega
        | pop2 a b c => omega
        | pop3 a b c => omega
        | pop4 a b c d => omega
        | pop5 a b c => omega
        | pop6 a b c => omega
      · have : gotH G { h with b := nth ms (base + 1), pc := 2 } = G := if_neg (by simp only []; omega)
        rw [this]; exact va
  | steal2 _ _ hp h0 ht hl hl2 =>
    refine ⟨ms, { h with v := nth ms (slI base cap h.t), pc := 3 }, tp, ?_, r, w, .steal3 hk hs rfl h0 ht hl hl2 (fun e => ?_), fun x hx => hx, ?_, rfl, rfl, .inr (by simp only []; omega)⟩
    · rw [stealF, if_neg (by omega), if_neg (by omega), if_neg (by omega), if_pos hp]
    · simp only [] at e
      simp only [e, slI_nat]
      rfl
    · have : gotH G { h with v := nth ms (slI base cap h.t), pc := 3 } = G := if_neg (by simp only []; omega)
      rw [this]; exact va
  | steal3 _ _ hp h0 ht hl hl2 hv =>
    by_cases hc : nth ms base = h.t
    · have e : h.t = tp := by omega
      have hlt := hl e
      have hT := hl2 e
      have hve := hv e
      have hsl := slV_top r ((tp : Int) + 1)
      obtain ⟨q1, q2, q3⟩ := va.rng tp (Nat.le_refl _) hlt
      have hNW : ¬ Won o := fun q => by
        obtain ⟨a1, a2, a3, _⟩ := q
        cases w <;> omega
      refine ⟨ms.set base (h.t + 1), { h with state := 1 }, tp + 1, ?_, ?_, ?_, .idle (.inr (by simp)), fun x hx => ?_, ?_, rfl, by simp, .inl (by simp)⟩
      · rw [stealF, if_neg (by omega), if_neg (by omega), if_neg (by omega), if_neg (by omega), if_pos hc]
      · exact ⟨r.c1, by simpa using r.len, by rw [top_top r, e]; rfl, by omega, by omega⟩
      · rw [e]; exact w.taken r hlt hT
      · exact hx.move (by omega) (fun q => by omega) (fun q => by omega) (fun q => by omega)
      · have : gotH G { h with state := 1 } = gotF G (slV ms base cap tp) := by
          rw [← hve]
          exact if_pos (.inl ⟨rfl, by simp only []; omega⟩)
        rw [this, e]
        refine ⟨fun n m a b c => ?_, fun n a b => ?_, fun hp => ?_, fun hw => absurd hw hNW, fun v a b => ?_, got_one va.one q3, got_out va.out ⟨q1, q2⟩, hlbn⟩
        · rw [hsl, hsl]; exact va.inc n m (by omega) b c
        · obtain ⟨c, d, f⟩ := va.rng n (by omega) b
          have := va.inc tp n (Nat.le_refl _) (by omega) b
          rw [hsl]
          exact ⟨c, d, by rw [gotF_other _ (by omega)]; exact f⟩
        · obtain ⟨p1, p2, p3, p4, p5⟩ := va.puts hp
          have := p4 tp (Nat.le_refl _) hlt
          exact ⟨p1, p2, by rw [gotF_other _ (by omega)]; exact p3, fun n a b => by rw [hsl]; exact p4 n (by omega) b, p5⟩
        · by_cases e2 : v = slV ms base cap tp
          · exact .inl (by rw [e2, gotF_same, q3])
          · rcases va.all v a b with c | ⟨n, c, d, f⟩ | ⟨c, d⟩ | ⟨c, d⟩
            · exact .inl (by rw [gotF_other _ e2]; exact c)
            · exact .inr (.inl ⟨n, by by_cases e3 : n = tp; (subst e3; exact absurd f.symm e2); omega, d, by rw [hsl]; exact f⟩)
            · exact .inr (.inr (.inl ⟨c, d⟩))
            · exact absurd c hNW
    · refine ⟨ms, { h with state := 4 }, tp, ?_, r, w, .idle (.inr (by simp)), fun x hx => hx, ?_, rfl, rfl, .inl (by simp)⟩
      · rw [stealF, if_neg (by omega), if_neg (by omega), if_neg (by omega), if_neg (by omega), if_neg hc]
      · have : gotH G { h with state := 4 } = G := if_neg (by simp)
        rw [this]; exact va

/-! ### Begun anew -/
def newH (kind v : Int) : Hd := { kind := kind, pc := 0, v := v, t := 0, b := 0, won := false, state := 0 }
theorem ow_bottom (w : OwI ms base cap tp lb o) (h : o.kind = 0 ∨ o.state ≠ 0) : nth ms (base + 1) = (lb : Int) := by
  cases w <;> first | assumption | omega
theorem idle_puts (h : o.kind = 0 ∨ o.state ≠ 0) : ¬ Puts o ∧ ¬ Won o ∧ ¬ Takes o lb := by
  refine ⟨fun q => ?_, fun q => ?_, fun q => ?_⟩
  · have := q.1; have := q.2; omega
  · have := q.1; have := q.2.1; omega
  · have := q.1; have := q.2.1; omega
theorem ThI.new_ (hx : ThI ms base cap tp lb o x) (h2 : ¬ Takes o' lb) : ThI ms base cap tp lb o' x := hx.move (Nat.le_refl _) (fun _ h => h) (fun _ _ _ q => absurd q h2) (fun _ _ => rfl)
theorem VaI.new_push (va : VaI ms base cap tp lb o G nx) (h : o.kind = 0 ∨ o.state ≠ 0) : VaI ms base cap tp lb (newH 1 ((nx + 1 : Nat) : Int)) G (nx + 1) := by
  obtain ⟨hp, hw, _⟩ := idle_puts (lb := lb) h
  have hlbn := va.lbn
  have h0 : G ((nx + 1 : Nat) : Int) = 0 := by
    by_cases e : G ((nx + 1 : Nat) : Int) = 0
    · exact e
    · have := va.out _ e; omega
  refine ⟨va.inc, fun n a b => ?_, fun _ => ⟨rfl, by omega, h0, fun n a b => ?_, by omega⟩, fun q => absurd q.1 (by simp [newH]), fun v a b => ?_, va.one, fun v a => ?_, by omega⟩
  · obtain ⟨c, d, e⟩ := va.rng n a b
    exact ⟨c, by omega, e⟩
  · have := (va.rng n a b).2.1
    omega
  · by_cases e : v = ((nx + 1 : Nat) : Int)
    · exact .inr (.inr (.inl ⟨⟨rfl, rfl⟩, e⟩))
    · rcases va.all v a (by omega) with c | c | ⟨c, _⟩ | ⟨c, _⟩
      · exact .inl c
      · exact .inr (.inl c)
      · exact absurd c hp
      · exact absurd c hw
  · have := va.out v a
    omega
theorem VaI.new_pop (va : VaI ms base cap tp lb o G nx) (h : o.kind = 0 ∨ o.state ≠ 0) : VaI ms base cap tp lb (newH 2 0) G nx := by
  obtain ⟨hp, hw, _⟩ := idle_puts (lb := lb) h
  exact va.stay (fun _ => rfl) hp hw (fun q => absurd q.1 (by simp [newH])) (fun q => absurd q.2.2.1 (by simp [newH]))
end

end Go.Proofs.Ytfmiamjbhlglbaa

/-
  An access of a deque's owner that pops: it may be, and what stays true stays true (the document's layer 7): plain mathematics, over no program.
-/
import Derived.Test.YtfmiamjbhlglbaaRgO
namespace Go.Proofs.Ytfmiamjbhlglbaa

section
variable {ms ms' : List Int} {base cap tp tp' lb lb' nx : Nat} {o o' h x : Hd} {G : Int → Nat}

/-- Nothing is got, put or won. -/
theorem VaI.stay (va : VaI ms base cap tp lb o G nx) (hs : ∀ n, slV ms' base cap n = slV ms base cap n) (hP : ¬ Puts o) (hW : ¬ Won o) (hP' : ¬ Puts o') (hW' : ¬ Won o') : VaI ms' base cap tp lb o' G nx :=
  va.keep (fun n _ _ => hs n) ⟨fun h => absurd h hP', fun h => absurd h hP⟩ (fun h => absurd h hP) ⟨fun h => absurd h hW', fun h => absurd h hW⟩ (fun h => absurd h hW)

theorem own_pop (r : RgI ms base cap tp lb) (w : OwI ms base cap tp lb o) (va : VaI ms base cap tp lb o G nx) (hk : o.kind = 2) (hs : o.state = 0) (hf : nx ≤ 1000000) :
    ∃ ms' o' tp' lb', accF ms base cap o = some (ms', o') ∧ OwStep ms base cap tp lb o G nx ms' o' tp' lb' := by
  have hNP : ¬ Puts o := fun h => by have := h.1; omega
  have hlbn := va.lbn
  have hle := r.le
  have hroom := r.room
  have hacc : accF ms base cap o = popF ms base cap o := by rw [accF, if_neg (by omega), if_pos hk]
  rw [hacc]
  have nput : ∀ {p : Hd}, p.kind = 2 → ¬ Puts p := fun h hp => by have := hp.1; omega
  cases w with
  | idle h hb => exact absurd h (by omega)
  | push0 h => omega
  | push1 h => omega
  | push2 h => omega
  | push3 h => omega
  | pop0 _ _ hp hb =>
    have hNW : ¬ Won o := fun h => by have := h.2.2.1; omega
    refine ⟨ms, { o with b := nth ms (base + 1), pc := 1 }, tp, lb, ?_, r, .pop1 hk hs rfl hb hb, fun x h => h.move (Nat.le_refl _) (fun _ h => h) (fun _ _ _ ht => absurd ht.2.2.1 (by simp)) (fun _ _ => rfl), ?_, rfl, rfl, .inr (by simp only []; omega)⟩
    · rw [popF, if_pos hp, if_pos (by rw [hb]; unfold cntOk; omega)]
    · have : gotH G { o with b := nth ms (base + 1), pc := 1 } = G := if_neg (by simp only []; omega)
      rw [this]
      exact va.stay (fun _ => rfl) hNP hNW (nput hk) (fun h => absurd h.2.2.1 (by simp))
  | pop1 _ _ hp hb hB =>
    have hNW : ¬ Won o := fun h => by have := h.2.2.1; omega
    refine ⟨ms.set (base + 1) (o.b - 1), { o with b := o.b - 1, pc := 2 }, tp, lb, ?_, ⟨r.c1, by simpa using r.len, by rw [top_bot r]; exact r.top, r.le, r.room⟩, .pop2 hk hs rfl (by rw [bot_bot r, hB]) (by simp only [hB]),
      fun x h => h.move (Nat.le_refl _) (fun _ h => h) (fun _ _ _ ht => absurd ht.2.2.1 (by simp)) (fun _ _ => slV_bot r _ _), ?_, rfl, by simp, .inr (by simp only []; omega)⟩
    · rw [popF, if_neg (by omega), if_pos hp, if_pos (by omega)]
    · have : gotH G { o with b := o.b - 1, pc := 2 } = G := if_neg (by simp only []; omega)
      rw [this]
      exact va.stay (slV_bot r _) hNP hNW (nput hk) (fun h => absurd h.2.2.1 (by simp))
  | pop2 _ _ hp hb hB =>
    have hNW : ¬ Won o := fun h => by have := h.2.2.1; omega
    have htop := r.top
    by_cases hc : o.b < nth ms base
    · refine ⟨ms, { o with t := nth ms base, pc := 3 }, tp, lb, ?_, r, .pop3 hk hs rfl hb hB (by simp only []; omega) (by omega), fun x h => h.move (Nat.le_refl _) (fun _ h => h) (fun _ _ _ ht => absurd ht.2.2.1 (by simp)) (fun _ _ => rfl), ?_, rfl, rfl, .inr (by simp only []; omega)⟩
      · rw [popF, if_neg (by omega), if_neg (by omega), if_pos hp, if_pos (by rw [htop]; unfold cntOk; omega), if_pos hc]
      · have : gotH G { o with t := nth ms base, pc := 3 } = G := if_neg (by simp only []; omega)
        rw [this]
        exact va.stay (fun _ => rfl) hNP hNW (nput hk) (fun h => absurd h.2.2.1 (by simp))
    · refine ⟨ms, { o with t := nth ms base, pc := 4 }, tp, lb, ?_, r, .pop4 hk hs rfl hb hB (by simp only []; omega) (by simp only []; omega) (by simp only []; omega) (by simp only []; omega),
        fun x h => h.move (Nat.le_refl _) (fun _ h => h) (fun _ h1 h2 ht => by have h4 := ht.2.2.2; simp only [] at h4; omega) (fun _ _ => rfl), ?_, rfl, rfl, .inr (by simp only []; omega)⟩
      · rw [popF, if_neg (by omega), if_neg (by omega), if_pos hp, if_pos (by rw [htop]; unfold cntOk; omega), if_neg hc]
      · have : gotH G { o with t := nth ms base, pc := 4 } = G := if_neg (by simp only []; omega)
        rw [this]
        exact va.stay (fun _ => rfl) hNP hNW (nput hk) (fun h => absurd h.2.2.1 (by simp))
  | pop3 _ _ hp hb hB hT he =>
    have hNW : ¬ Won o := fun h => by have := h.2.2.1; omega
    refine ⟨ms.set (base + 1) o.t, { o with state := 2 }, tp, lb, ?_, ⟨r.c1, by simpa using r.len, by rw [top_bot r]; exact r.top, r.le, r.room⟩, .idle (.inr (by simp)) (by rw [bot_bot r, hT]),
      fun x h => h.move (Nat.le_refl _) (fun _ h => h) (fun _ _ _ ht => absurd ht.2.1 (by simp)) (fun _ _ => slV_bot r _ _), ?_, rfl, by simp, .inl (by simp)⟩
    · rw [popF, if_neg (by omega), if_neg (by omega), if_neg (by omega), if_neg (by omega), if_neg (by omega), if_pos hp]
    · have : gotH G { o with state := 2 } = G := if_neg (by simp)
      rw [this]
      exact va.stay (slV_bot r _) hNP hNW (nput hk) (fun h => absurd h.2.1 (by simp))
  | pop4 _ _ hp hb hB h0 ht hl hsafe =>
    have hNW : ¬ Won o := fun h => by have := h.2.2.1; omega
    have h1 : 1 ≤ lb := by omega
    have hob : o.b = ((lb - 1 : Nat) : Int) := by omega
    have hsl : nth ms (slI base cap o.b) = slV ms base cap (lb - 1) := by rw [hob, slI_nat]; rfl
    by_cases hc : o.t < o.b
    · have htl : tp + 1 ≤ lb := hsafe (by omega)
      obtain ⟨q1, q2, q3⟩ := va.rng (lb - 1) (by omega) (by omega)
      refine ⟨ms, { o with v := nth ms (slI base cap o.b), state := 1 }, tp, lb - 1, ?_, ⟨r.c1, r.len, r.top, by omega, by omega⟩, .idle (.inr (by simp)) (by rw [hb]; omega), fun x hx => ?_, ?_, rfl, rfl, .inl (by simp)⟩
      · rw [popF, if_neg (by omega), if_neg (by omega), if_neg (by omega), if_pos hp, if_neg (by omega), if_pos hc]
      · have hTk : Takes o lb := ⟨hk, hs, hp, by omega⟩
        cases hx with
        | idle h0 => exact .idle h0
        | steal0 a b c => exact .steal0 a b c
        | steal1 a b c d e => exact .steal1 a b c d e
        | steal2 a b c d e f g => exact .steal2 a b c d e (fun q => by have := g q hTk; omega) (fun _ q => absurd q.2.1 (by simp))
        | steal3 a b c d e f g i => exact .steal3 a b c d e (fun q => by have := g q hTk; omega) (fun _ q => absurd q.2.1 (by simp)) i
      · have : gotH G { o with v := nth ms (slI base cap o.b), state := 1 } = gotF G (slV ms base cap (lb - 1)) := by
          rw [← hsl]
          exact if_pos (.inl ⟨rfl, by simp only []; omega⟩)
        rw [this]
        refine ⟨fun n m a b c => va.inc n m a b (by omega), fun n a b => ?_, fun hp => absurd hp.2 (by simp), fun hw => absurd hw.2.1 (by simp), fun v a b => ?_, got_one va.one q3, got_out va.out ⟨q1, q2⟩, by omega⟩
        · obtain ⟨c, d, e⟩ := va.rng n a (by omega)
          have := va.inc n (lb - 1) a (by omega) (by omega)
          exact ⟨c, d, by rw [gotF_other _ (by omega)]; exact e⟩
        · by_cases e : v = slV ms base cap (lb - 1)
          · exact .inl (by rw [e, gotF_same, q3])
          · rcases va.all v a b with c | ⟨n, c, d, f⟩ | ⟨c, d⟩ | ⟨c, d⟩
            · exact .inl (by rw [gotF_other _ e]; exact c)
            · exact .inr (.inl ⟨n, c, by by_cases e2 : n = lb - 1; (subst e2; exact absurd f.symm e); omega, f⟩)
            · exact absurd c hNP
            · exact absurd c hNW
    · refine ⟨ms, { o with v := nth ms (slI base cap o.b), pc := 5 }, tp, lb, ?_, r, .pop5 hk hs rfl hb hB (by simp only []; omega) ht h1 hsl, fun x h => h.move (Nat.le_refl _) (fun _ h => h) (fun _ _ _ ht => absurd ht.2.2.1 (by simp)) (fun _ _ => rfl), ?_, rfl, rfl, .inr (by simp only []; omega)⟩
      · rw [popF, if_neg (by omega), if_neg (by omega), if_neg (by omega), if_pos hp, if_neg (by omega), if_neg hc]
      · have : gotH G { o with v := nth ms (slI base cap o.b), pc := 5 } = G := if_neg (by simp only []; omega)
        rw [this]
        exact va.stay (fun _ => rfl) hNP hNW (nput hk) (fun h => absurd h.2.2.1 (by simp))
  | pop5 _ _ hp hb hB hT ht h1 hv =>
    have hNW : ¬ Won o := fun h => by have := h.2.2.1; omega
    by_cases hc : nth ms base = o.t
    · have htp : tp = lb - 1 := by have := r.top; omega
      obtain ⟨q1, q2, q3⟩ := va.rng (lb - 1) (by omega) (by omega)
      refine ⟨ms.set base (o.t + 1), { o with won := true, pc := 6 }, lb, lb, ?_, ⟨r.c1, by simpa using r.len, by rw [top_top r, hT]; omega, Nat.le_refl _, by omega⟩, .pop6 hk hs rfl (by rw [bot_top r]; exact hb) hT h1 rfl,
        fun x h => h.move (by omega) (fun e => by omega) (fun e => by omega) (fun e => by omega), ?_, rfl, by simp, .inr (by simp only []; omega)⟩
      · rw [popF, if_neg (by omega), if_neg (by omega), if_neg (by omega), if_neg (by omega), if_neg (by omega), if_neg (by omega), if_pos hp, if_pos hc]
      · have : gotH G { o with won := true, pc := 6 } = G := if_neg (by simp only []; omega)
        rw [this]
        refine ⟨fun n m a b c => by omega, fun n a b => by omega, fun hp => absurd hp (nput hk), fun _ => ?_, fun v a b => ?_, va.one, va.out, hlbn⟩
        · simp only [hv]
          exact ⟨q1, q2, q3⟩
        · rcases va.all v a b with c | ⟨n, c, d, f⟩ | ⟨c, d⟩ | ⟨c, d⟩
          · exact .inl c
          · obtain rfl : n = lb - 1 := by omega
            exact .inr (.inr (.inr ⟨⟨hk, hs, rfl, rfl⟩, by simp only [hv]; exact f.symm⟩))
          · exact absurd c hNP
          · exact absurd c hNW
    · have htp : tp = lb := by have := r.top; omega
      refine ⟨ms, { o with won := false, pc := 6 }, tp, lb, ?_, r, .pop6 hk hs rfl hb hT h1 htp, fun x h => h.move (Nat.le_refl _) (fun _ h => h) (fun _ _ _ ht => absurd ht.2.2.1 (by simp)) (fun _ _ => rfl), ?_, rfl, rfl, .inr (by simp only []; omega)⟩
      · rw [popF, if_neg (by omega), if_neg (by omega), if_neg (by omega), if_neg (by omega), if_neg (by omega), if_neg (by omega), if_pos hp, if_neg hc]
      · have : gotH G { o with won := false, pc := 6 } = G := if_neg (by simp only []; omega)
        rw [this]
        exact va.stay (fun _ => rfl) hNP hNW (nput hk) (fun h => absurd h.2.2.2 (by simp))
  | pop6 _ _ hp hb hT h1 he =>
    subst he
    refine ⟨ms.set (base + 1) (o.t + 1), { o with state := if o.won then 1 else 2 }, tp, tp, ?_, ⟨r.c1, by simpa using r.len, by rw [top_bot r]; exact r.top, Nat.le_refl _, r.room⟩, .idle (.inr (by simp only []; split <;> omega)) (by rw [bot_bot r, hT]; omega),
      fun x h => h.move (Nat.le_refl _) (fun _ h => h) (fun _ _ _ ht => absurd ht.2.1 (by simp only []; split <;> omega)) (fun _ _ => slV_bot r _ _), ?_, rfl, by simp, .inl (by simp only []; split <;> omega)⟩
    · rw [popF, if_neg (by omega), if_neg (by omega), if_neg (by omega), if_neg (by omega), if_neg (by omega), if_neg (by omega), if_neg (by omega)]
    · have hNW' : ∀ s : Int, s ≠ 0 → ¬ Won { o with state := s } := fun s hs h => hs h.2.1
      have hNP' : ∀ s : Int, ¬ Puts { o with state := s } := fun s h => by have := h.1; simp only [] at this; omega
      by_cases hw : o.won = true
      · have hW : Won o := ⟨hk, hs, hp, hw⟩
        obtain ⟨q1, q2, q3⟩ := va.wins hW
        have : gotH G { o with state := if o.won then 1 else 2 } = gotF G o.v := if_pos (.inl ⟨if_pos hw, by simp only []; omega⟩)
        rw [this]
        refine ⟨fun n m a b c => by omega, fun n a b => by omega, fun hp => absurd hp (hNP' _), fun hw2 => absurd hw2 (hNW' _ (by rw [if_pos hw]; omega)), fun v a b => ?_, got_one va.one q3, got_out va.out ⟨q1, q2⟩, hlbn⟩
        by_cases e : v = o.v
        · exact .inl (by rw [e, gotF_same, q3])
        · rcases va.all v a b with c | ⟨n, c, d, f⟩ | ⟨c, d⟩ | ⟨c, d⟩
          · exact .inl (by rw [gotF_other _ e]; exact c)
          · omega
          · exact absurd c hNP
          · exact absurd d e
      · have hNW : ¬ Won o := fun h => hw h.2.2.2
        have : gotH G { o with state := if o.won then 1 else 2 } = G := if_neg (by simp only [if_neg hw]; omega)
        rw [this]
        exact va.stay (slV_bot r _) hNP hNW (hNP' _) (hNW' _ (by rw [if_neg hw]; omega))
end

end Go.Proofs.Ytfmiamjbhlglbaa

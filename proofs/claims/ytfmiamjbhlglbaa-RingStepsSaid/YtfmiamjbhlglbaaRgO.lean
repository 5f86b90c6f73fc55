/-
  An access of a deque's owner, and of another one: it may be, and what stays true stays true (the document's layer 7): plain mathematics, over no program.
-/
import Derived.Test.YtfmiamjbhlglbaaRgM
namespace Go.Proofs.Ytfmiamjbhlglbaa

section
variable {ms ms' : List Int} {base cap tp tp' lb lb' nx : Nat} {o o' h x : Hd} {G : Int → Nat}

/-- How others stand to it, behind an access of somebody. -/
theorem ThI.move (h : ThI ms base cap tp lb o x) (htp : tp ≤ tp') (hl : tp' = tp → tp < lb → tp < lb') (h2 : tp' = tp → tp < lb → (Takes o lb → tp + 1 < lb) → Takes o' lb' → tp + 1 < lb')
    (hv : tp' = tp → tp < lb → slV ms' base cap tp = slV ms base cap tp) : ThI ms' base cap tp' lb' o' x := by
  cases h with
  | idle h0 => exact .idle h0
  | steal0 hk hs hp => exact .steal0 hk hs hp
  | steal1 hk hs hp h0 ht => exact .steal1 hk hs hp h0 (by omega)
  | steal2 hk hs hp h0 ht hl1 hl2 =>
    refine .steal2 hk hs hp h0 (by omega) (fun e => ?_) (fun e ht2 => ?_)
    · have e1 : tp' = tp := by omega
      have := hl e1 (hl1 (by omega))
      omega
    · have e1 : tp' = tp := by omega
      have := h2 e1 (hl1 (by omega)) (hl2 (by omega)) ht2
      omega
  | steal3 hk hs hp h0 ht hl1 hl2 hv1 =>
    refine .steal3 hk hs hp h0 (by omega) (fun e => ?_) (fun e ht2 => ?_) (fun e => ?_)
    · have e1 : tp' = tp := by omega
      have := hl e1 (hl1 (by omega))
      omega
    · have e1 : tp' = tp := by omega
      have := h2 e1 (hl1 (by omega)) (hl2 (by omega)) ht2
      omega
    · have e1 : tp' = tp := by omega
      rw [e1, hv e1 (hl1 (by omega))]
      exact hv1 (by omega)

/-- What became of each number, where the same are there. -/
theorem VaI.keep (h : VaI ms base cap tp lb o G nx) (hs : ∀ n, tp ≤ n → n < lb → slV ms' base cap n = slV ms base cap n) (hP : Puts o' ↔ Puts o) (hPv : Puts o → o'.v = o.v) (hW : Won o' ↔ Won o) (hWv : Won o → o'.v = o.v) :
    VaI ms' base cap tp lb o' G nx := by
  refine ⟨fun n m h1 h2 h3 => ?_, fun n h1 h2 => ?_, fun hp => ?_, fun hw => ?_, fun v h1 h2 => ?_, h.one, h.out, h.lbn⟩
  · rw [hs n h1 (by omega), hs m (by omega) h3]; exact h.inc n m h1 h2 h3
  · rw [hs n h1 h2]; exact h.rng n h1 h2
  · obtain ⟨a, b, c, d, e⟩ := h.puts (hP.1 hp)
    exact ⟨(hPv (hP.1 hp)).trans a, b, c, fun n h1 h2 => by rw [hs n h1 h2]; exact d n h1 h2, e⟩
  · rw [hWv (hW.1 hw)]; exact h.wins (hW.1 hw)
  · rcases h.all v h1 h2 with a | ⟨n, a, b, c⟩ | ⟨a, b⟩ | ⟨a, b⟩
    · exact .inl a
    · exact .inr (.inl ⟨n, a, b, by rw [hs n a b]; exact c⟩)
    · exact .inr (.inr (.inl ⟨hP.2 a, b⟩))
    · exact .inr (.inr (.inr ⟨hW.2 a, by rw [hWv a]; exact b⟩))

/-- What was got, with one number more. -/
def gotF (G : Int → Nat) (v : Int) (u : Int) : Nat := if u = v then G u + 1 else G u
theorem gotF_same (G : Int → Nat) (v : Int) : gotF G v v = G v + 1 := if_pos rfl
theorem gotF_other (G : Int → Nat) {v u : Int} (h : u ≠ v) : gotF G v u = G u := if_neg h
/-- Behind an access: what is taken (or was not put, as there was no room) is got. -/
def gotH (G : Int → Nat) (h : Hd) : Int → Nat := if h.state = 1 ∧ h.kind ≠ 1 ∨ h.state = 3 then gotF G h.v else G

/-- A number that was not got is got: no more than once. -/
theorem got_one {v : Int} (h1 : ∀ u, G u ≤ 1) (h0 : G v = 0) (u : Int) : gotF G v u ≤ 1 := by
  unfold gotF
  split
  · rename_i e; subst e; omega
  · exact h1 u
theorem got_out {v : Int} (h : ∀ u, G u ≠ 0 → 1 ≤ u ∧ u ≤ (nx : Int)) (hv : 1 ≤ v ∧ v ≤ (nx : Int)) (u : Int) (hu : gotF G v u ≠ 0) : 1 ≤ u ∧ u ≤ (nx : Int) := by
  unfold gotF at hu
  split at hu
  · rename_i e; subst e; exact hv
  · exact h u hu

theorem puts_no_state (h : o.state ≠ 0) : ¬ Puts o := fun p => h p.2
theorem won_no_state (h : o.state ≠ 0) : ¬ Won o := fun p => h p.2.1

/-- What an owner's access comes to. -/
structure OwStep (ms : List Int) (base cap tp lb : Nat) (o : Hd) (G : Int → Nat) (nx : Nat) (ms' : List Int) (o' : Hd) (tp' lb' : Nat) : Prop where
  rg : RgI ms' base cap tp' lb'
  ow : OwI ms' base cap tp' lb' o'
  th : ∀ x, ThI ms base cap tp lb o x → ThI ms' base cap tp' lb' o' x
  va : VaI ms' base cap tp' lb' o' (gotH G o') nx
  kind : o'.kind = o.kind
  len : ms'.length = ms.length
  pc : o'.state ≠ 0 ∨ o.pc < o'.pc

theorem own_push (r : RgI ms base cap tp lb) (w : OwI ms base cap tp lb o) (va : VaI ms base cap tp lb o G nx) (hk : o.kind = 1) (hs : o.state = 0) (hf : nx ≤ 1000000) :
    ∃ ms' o' tp' lb', accF ms base cap o = some (ms', o') ∧ OwStep ms base cap tp lb o G nx ms' o' tp' lb' := by
  have hP : Puts o := ⟨hk, hs⟩
  obtain ⟨p1, p2, p3, p4, p5⟩ := va.puts hP
  have hlbn := va.lbn
  have hle := r.le
  have hNW : ¬ Won o := fun h => by have := h.1; omega
  have hacc : accF ms base cap o = pushF ms base cap o := by rw [accF, if_pos hk]
  rw [hacc]
  cases w with
  | idle h hb => exact absurd h (by omega)
  | push0 _ _ hp hb =>
    refine ⟨ms, { o with t := nth ms base, pc := 1 }, tp, lb, ?_, r, .push1 hk hs rfl hb (by simp only [r.top]; omega) (by simp only [r.top]; omega), fun x h => h.move (Nat.le_refl _) (fun _ h => h) (fun _ _ _ ht => absurd ht.2.2.1 (by simp)) (fun _ _ => rfl), ?_, rfl, rfl, .inr (by simp only []; omega)⟩
    · rw [pushF, if_pos hp, if_pos (by rw [r.top]; unfold cntOk; omega)]
    · have : gotH G { o with t := nth ms base, pc := 1 } = G := if_neg (by simp only []; omega)
      rw [this]
      exact va.keep (fun _ _ _ => rfl) Iff.rfl (fun _ => rfl) ⟨fun h => absurd h.1 (by simp only []; omega), fun h => absurd h hNW⟩ (fun _ => rfl)
  | push1 _ _ hp hb h0 ht =>
    by_cases hc : (cap : Int) ≤ nth ms (base + 1) - o.t
    · refine ⟨ms, { o with b := nth ms (base + 1), state := 3 }, tp, lb, ?_, r, .idle (.inr (by simp)) hb, fun x h => h.move (Nat.le_refl _) (fun _ h => h) (fun _ _ _ ht => absurd ht.1 (by simp only []; omega)) (fun _ _ => rfl), ?_, rfl, rfl, .inl (by simp)⟩
      · rw [pushF, if_neg (by omega), if_pos hp, if_pos (by rw [hb]; unfold cntOk; omega), if_pos hc]
      · have : gotH G { o with b := nth ms (base + 1), state := 3 } = gotF G o.v := if_pos (by simp)
        rw [this, p1]
        refine ⟨va.inc, fun n h1 h2 => ?_, fun hp => absurd hp.2 (by simp), fun hw => absurd hw.2.1 (by simp), fun v h1 h2 => ?_, got_one va.one p3, got_out va.out (by omega), hlbn⟩
        · obtain ⟨a, b, c⟩ := va.rng n h1 h2
          exact ⟨a, b, by rw [gotF_other _ (by have := p4 n h1 h2; omega)]; exact c⟩
        · rcases va.all v h1 h2 with a | ⟨n, a, b, c⟩ | ⟨a, b⟩ | ⟨a, b⟩
          · by_cases e : v = nx
            · subst e; omega
            · exact .inl (by rw [gotF_other _ e]; exact a)
          · exact .inr (.inl ⟨n, a, b, c⟩)
          · exact .inl (by rw [b, gotF_same, p3])
          · exact absurd a hNW
    · refine ⟨ms, { o with b := nth ms (base + 1), pc := 2 }, tp, lb, ?_, r, .push2 hk hs rfl hb h0 ht hb (by simp only []; omega), fun x h => h.move (Nat.le_refl _) (fun _ h => h) (fun _ _ _ ht => absurd ht.1 (by simp only []; omega)) (fun _ _ => rfl), ?_, rfl, rfl, .inr (by simp only []; omega)⟩
      · rw [pushF, if_neg (by omega), if_pos hp, if_pos (by rw [hb]; unfold cntOk; omega), if_neg hc]
      · have : gotH G { o with b := nth ms (base + 1), pc := 2 } = G := if_neg (by simp only []; omega)
        rw [this]
        exact va.keep (fun _ _ _ => rfl) Iff.rfl (fun _ => rfl) ⟨fun h => absurd h.1 (by simp only []; omega), fun h => absurd h hNW⟩ (fun _ => rfl)
  | push2 _ _ hp hb h0 ht hB hc =>
    have hsl : slI base cap o.b = base + 2 + lb % cap := by rw [hB, slI_nat]
    have hsame : ∀ n, tp ≤ n → n < lb → slV (ms.set (slI base cap o.b) o.v) base cap n = slV ms base cap n := by
      intro n h1 h2
      unfold slV
      rw [hsl, nth_setR _ _ _ _ (r.slot_lt n), if_neg]
      have := mod_ne (c := cap) h2 (by omega)
      omega
    have hlt := r.slot_lt lb
    refine ⟨ms.set (slI base cap o.b) o.v, { o with pc := 3 }, tp, lb, ?_, ⟨r.c1, by simpa using r.len, ?_, r.le, r.room⟩, .push3 hk hs rfl ?_ h0 ht hB hc ?_, fun x h => h.move (Nat.le_refl _) (fun _ h => h) (fun _ _ _ ht => absurd ht.1 (by simp only []; omega)) (fun _ h2 => hsame tp (Nat.le_refl _) h2), ?_, rfl, by simp, .inr (by simp only []; omega)⟩
    · rw [pushF, if_neg (by omega), if_neg (by omega), if_neg (by omega), if_pos hp]
    · rw [nth_setR _ _ _ _ (by have := r.len; omega), hsl, if_neg (by omega)]; exact r.top
    · rw [nth_setR _ _ _ _ (by have := r.len; have := r.c1; omega), hsl, if_neg (by omega)]; exact hb
    · unfold slV
      rw [hsl, nth_setR _ _ _ _ hlt, if_pos rfl]
    · have : gotH G { o with pc := 3 } = G := if_neg (by simp only []; omega)
      rw [this]
      exact va.keep hsame Iff.rfl (fun _ => rfl) ⟨fun h => absurd h.1 (by simp only []; omega), fun h => absurd h hNW⟩ (fun _ => rfl)
  | push3 _ _ hp hb h0 ht hB hc hv =>
    have hsame : ∀ n, slV (ms.set (base + 1) (o.b + 1)) base cap n = slV ms base cap n := slV_bot r _
    refine ⟨ms.set (base + 1) (o.b + 1), { o with state := 1 }, tp, lb + 1, ?_, ⟨r.c1, by simpa using r.len, by rw [top_bot r]; exact r.top, by omega, by omega⟩, .idle (.inr (by simp)) (by rw [bot_bot r, hB]; omega),
      fun x h => h.move (Nat.le_refl _) (fun _ h => by omega) (fun _ _ _ ht => absurd ht.1 (by simp only []; omega)) (fun _ _ => hsame tp), ?_, rfl, by simp, .inl (by simp)⟩
    · rw [pushF, if_neg (by omega), if_neg (by omega), if_neg (by omega), if_neg (by omega)]
    · have : gotH G { o with state := 1 } = G := if_neg (by simp only []; omega)
      rw [this]
      refine ⟨fun n m h1 h2 h3 => ?_, fun n h1 h2 => ?_, fun hp => absurd hp.2 (by simp), fun hw => absurd hw.2.1 (by simp), fun v h1 h2 => ?_, va.one, va.out, p5⟩
      · rw [hsame, hsame]
        by_cases e : m = lb
        · subst e; rw [hv, p1]; exact p4 n h1 h2
        · exact va.inc n m h1 h2 (by omega)
      · rw [hsame]
        by_cases e : n = lb
        · subst e; rw [hv, p1]; exact ⟨by omega, by omega, p3⟩
        · exact va.rng n h1 (by omega)
      · rcases va.all v h1 h2 with a | ⟨n, a, b, c⟩ | ⟨a, b⟩ | ⟨a, b⟩
        · exact .inl a
        · exact .inr (.inl ⟨n, a, by omega, by rw [hsame]; exact c⟩)
        · exact .inr (.inl ⟨lb, r.le, by omega, by rw [hsame, hv, p1, b]⟩)
        · exact absurd a hNW
  | pop0 h => omega
  | pop1 h => omega
  | pop2 h => omega
  | pop3 h => omega
  | pop4 h => omega
  | pop5 h => omega
  | pop6 h => omega
end

end Go.Proofs.Ytfmiamjbhlglbaa

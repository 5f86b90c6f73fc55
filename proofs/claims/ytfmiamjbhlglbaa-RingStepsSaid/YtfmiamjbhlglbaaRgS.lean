/-
  A hand's accesses one behind the other, till it is not going (the document's Solo): it comes to an end; with nobody else there, it is a list (P7.3, P7.4): plain mathematics, over no program.
-/
import Derived.Test.YtfmiamjbhlglbaaRgR
namespace Go.Proofs.Ytfmiamjbhlglbaa

section
variable {ms ms' l : List Int} {base cap tp lb : Nat} {h h' : Hd}
/-- Each access goes on, or is the last one. -/
theorem acc_on (ha : accF ms base cap h = some (ms', h')) : h'.state ≠ 0 ∨ h.pc < h'.pc := by
  unfold accF at ha
  split at ha
  · unfold pushF at ha
    repeat' split at ha
    all_goals first
      | (cases ha; done)
      | (injection ha with ha; injection ha with _ ha; subst ha; left; simp; done)
      | (injection ha with ha; injection ha with _ ha; subst ha; right; simp only []; omega)
  · split at ha
    · unfold popF at ha
      repeat' split at ha
      all_goals first
        | (cases ha; done)
        | (injection ha with ha; injection ha with _ ha; subst ha; left; simp only []; split <;> omega)
        | (injection ha with ha; injection ha with _ ha; subst ha; left; simp; done)
        | (injection ha with ha; injection ha with _ ha; subst ha; right; simp only []; omega)
    · unfold stealF at ha
      repeat' split at ha
      all_goals first
        | (cases ha; done)
        | (injection ha with ha; injection ha with _ ha; subst ha; left; simp; done)
        | (injection ha with ha; injection ha with _ ha; subst ha; right; simp only []; omega)
theorem acc_len (ha : accF ms base cap h = some (ms', h')) : ms'.length = ms.length := by
  unfold accF at ha
  split at ha
  · unfold pushF at ha
    repeat' split at ha
    all_goals first
      | (cases ha; done)
      | (injection ha with ha; injection ha with ha _; subst ha; simp)
  · split at ha
    · unfold popF at ha
      repeat' split at ha
      all_goals first
        | (cases ha; done)
        | (injection ha with ha; injection ha with ha _; subst ha; simp)
    · unfold stealF at ha
      repeat' split at ha
      all_goals first
        | (cases ha; done)
        | (injection ha with ha; injection ha with ha _; subst ha; simp)

/-- All accesses, till the hand is not going: as many as k at the most. -/
def soloF (base cap : Nat) : Nat → List Int → Hd → Option (List Int × Hd)
  | 0, ms, h => some (ms, h)
  | k + 1, ms, h => if h.state = 0 then (match accF ms base cap h with
    | none => none
    | some (ms', h') => soloF base cap k ms' h') else some (ms, h)
theorem solo_end (k : Nat) (hs : h.state ≠ 0) : soloF base cap k ms h = some (ms, h) := by
  cases k with
  | zero => rfl
  | succ k => rw [soloF, if_neg hs]
theorem solo_on (k : Nat) (hs : h.state = 0) (ha : accF ms base cap h = some (ms', h')) : soloF base cap (k + 1) ms h = soloF base cap k ms' h' := by
  rw [soloF, if_pos hs, ha]
theorem solo_no (k : Nat) (hs : h.state = 0) (ha : accF ms base cap h = none) : soloF base cap (k + 1) ms h = none := by
  rw [soloF, if_pos hs, ha]

theorem nth_setO (zs : List Int) (k j : Nat) (x : Int) (h : k ≠ j) : nth (zs.set k x) j = nth zs j := by simp [nth, List.getD, h]

/-! ### The accesses, one by one -/
theorem push0 (v t b : Int) (w : Bool) (s : Int) : accF ms base cap ⟨1, 0, v, t, b, w, s⟩ = if cntOk (nth ms base) 0 then some (ms, ⟨1, 1, v, nth ms base, b, w, s⟩) else none := by simp [accF, pushF]
theorem push1 (v t b : Int) (w : Bool) (s : Int) : accF ms base cap ⟨1, 1, v, t, b, w, s⟩ = if cntOk (nth ms (base + 1)) 0 then (if (cap : Int) ≤ nth ms (base + 1) - t then some (ms, ⟨1, 1, v, t, nth ms (base + 1), w, 3⟩) else some (ms, ⟨1, 2, v, t, nth ms (base + 1), w, s⟩)) else none := by simp [accF, pushF]
theorem push2 (v t b : Int) (w : Bool) (s : Int) : accF ms base cap ⟨1, 2, v, t, b, w, s⟩ = if b < 0 then none else some (ms.set (slI base cap b) v, ⟨1, 3, v, t, b, w, s⟩) := by simp [accF, pushF]
theorem push3 (v t b : Int) (w : Bool) (s : Int) : accF ms base cap ⟨1, 3, v, t, b, w, s⟩ = if b < 0 then none else some (ms.set (base + 1) (b + 1), ⟨1, 3, v, t, b, w, 1⟩) := by simp [accF, pushF]
theorem pop0 (v t b : Int) (w : Bool) (s : Int) : accF ms base cap ⟨2, 0, v, t, b, w, s⟩ = if cntOk (nth ms (base + 1)) 0 then some (ms, ⟨2, 1, v, t, nth ms (base + 1), w, s⟩) else none := by simp [accF, popF]
theorem pop1 (v t b : Int) (w : Bool) (s : Int) : accF ms base cap ⟨2, 1, v, t, b, w, s⟩ = if -1 ≤ b - 1 then some (ms.set (base + 1) (b - 1), ⟨2, 2, v, t, b - 1, w, s⟩) else none := by simp [accF, popF]
theorem pop2 (v t b : Int) (w : Bool) (s : Int) : accF ms base cap ⟨2, 2, v, t, b, w, s⟩ = if cntOk (nth ms base) 0 then (if b < nth ms base then some (ms, ⟨2, 3, v, nth ms base, b, w, s⟩) else some (ms, ⟨2, 4, v, nth ms base, b, w, s⟩)) else none := by simp [accF, popF]
theorem pop3 (v t b : Int) (w : Bool) (s : Int) : accF ms base cap ⟨2, 3, v, t, b, w, s⟩ = if t < 0 then none else some (ms.set (base + 1) t, ⟨2, 3, v, t, b, w, 2⟩) := by simp [accF, popF]
theorem pop4 (v t b : Int) (w : Bool) (s : Int) : accF ms base cap ⟨2, 4, v, t, b, w, s⟩ = if b < 0 then none else if t < b then some (ms, ⟨2, 4, nth ms (slI base cap b), t, b, w, 1⟩) else some (ms, ⟨2, 5, nth ms (slI base cap b), t, b, w, s⟩) := by simp [accF, popF]
theorem pop5 (v t b : Int) (w : Bool) (s : Int) : accF ms base cap ⟨2, 5, v, t, b, w, s⟩ = if t < 0 then none else if nth ms base = t then some (ms.set base (t + 1), ⟨2, 6, v, t, b, true, s⟩) else some (ms, ⟨2, 6, v, t, b, false, s⟩) := by simp [accF, popF]
theorem pop6 (v t b : Int) (w : Bool) (s : Int) : accF ms base cap ⟨2, 6, v, t, b, w, s⟩ = if t < 0 then none else some (ms.set (base + 1) (t + 1), ⟨2, 6, v, t, b, w, if w then 1 else 2⟩) := by simp [accF, popF]
theorem steal0 (v t b : Int) (w : Bool) (s : Int) : accF ms base cap ⟨3, 0, v, t, b, w, s⟩ = if cntOk (nth ms base) 0 then some (ms, ⟨3, 1, v, nth ms base, b, w, s⟩) else none := by simp [accF, stealF]
theorem steal1 (v t b : Int) (w : Bool) (s : Int) : accF ms base cap ⟨3, 1, v, t, b, w, s⟩ = if cntOk (nth ms (base + 1)) (-1) then (if nth ms (base + 1) - t < 1 then some (ms, ⟨3, 1, v, t, nth ms (base + 1), w, 2⟩) else some (ms, ⟨3, 2, v, t, nth ms (base + 1), w, s⟩)) else none := by simp [accF, stealF]
theorem steal2 (v t b : Int) (w : Bool) (s : Int) : accF ms base cap ⟨3, 2, v, t, b, w, s⟩ = if t < 0 then none else some (ms, ⟨3, 3, nth ms (slI base cap t), t, b, w, s⟩) := by simp [accF, stealF]
theorem steal3 (v t b : Int) (w : Bool) (s : Int) : accF ms base cap ⟨3, 3, v, t, b, w, s⟩ = if t < 0 then none else if nth ms base = t then some (ms.set base (t + 1), ⟨3, 3, v, t, b, w, 1⟩) else some (ms, ⟨3, 3, v, t, b, w, 4⟩) := by simp [accF, stealF]

/-! ### With nobody else there -/
/-- A deque that nobody is at: its top, its bottom, the numbers between. -/
structure DqI (ms : List Int) (base cap tp : Nat) (l : List Int) : Prop where
  rg : RgI ms base cap tp (tp + l.length)
  bot : nth ms (base + 1) = ((tp + l.length : Nat) : Int)
  sl : ∀ k, k < l.length → slV ms base cap (tp + k) = nth l k
  few : tp + l.length < 1099511627776

theorem nth_app (l : List Int) (v : Int) (k : Nat) (h : k < l.length + 1) : nth (l ++ [v]) k = if k < l.length then nth l k else v := by
  simp only [nth, List.getD, List.getElem?_append]
  split
  · rfl
  · obtain rfl : k = l.length := by omega
    simp
theorem set_self (zs : List Int) (k : Nat) : zs.set k (nth zs k) = zs := by
  refine List.ext_getElem (by simp) fun i h1 h2 => ?_
  rw [List.getElem_set]
  split
  · rename_i e; subst e; simp [nth, List.getD, h2]
  · rfl

/-- Pushed: there is no room, just if as many are there as there are slots; else it is behind. -/
theorem solo_push_full (d : DqI ms base cap tp l) (hf : (cap : Int) ≤ (l.length : Int)) (v : Int) :
    soloF base cap 8 ms (newH 1 v) = some (ms, ⟨1, 1, v, tp, ((tp + l.length : Nat) : Int), false, 3⟩) := by
  have htop := d.rg.top
  have hbot := d.bot
  have hfew := d.few
  rw [show newH 1 v = ⟨1, 0, v, 0, 0, false, 0⟩ from rfl, solo_on 7 rfl (push0 .. |>.trans (if_pos (by rw [htop]; unfold cntOk; omega))), htop,
    solo_on 6 rfl (push1 .. |>.trans ((if_pos (by rw [hbot]; unfold cntOk; omega)).trans (if_pos (by rw [hbot]; omega)))), hbot]
  exact solo_end 6 (by simp)
theorem solo_push (d : DqI ms base cap tp l) (hf : (l.length : Int) < (cap : Int)) (v : Int) (hr : tp + l.length + 1 < 1099511627776) :
    ∃ ms' h', soloF base cap 8 ms (newH 1 v) = some (ms', h') ∧ h'.state = 1 ∧ h'.kind = 1 ∧ h'.v = v ∧ DqI ms' base cap tp (l ++ [v]) ∧ ms'.length = ms.length ∧ ∀ i, (i < base ∨ base + 2 + cap ≤ i) → nth ms' i = nth ms i := by
  have htop := d.rg.top
  have hbot := d.bot
  have hfew := d.few
  have hlen := d.rg.len
  have c1 := d.rg.c1
  have hsl : slI base cap ((tp + l.length : Nat) : Int) = base + 2 + (tp + l.length) % cap := slI_nat _ _ _
  have hm := Nat.mod_lt (tp + l.length) c1
  obtain ⟨s, hs⟩ : ∃ s, base + 2 + (tp + l.length) % cap = s := ⟨_, rfl⟩
  rw [hs] at hsl
  refine ⟨(ms.set s v).set (base + 1) (((tp + l.length : Nat) : Int) + 1), ⟨1, 3, v, tp, ((tp + l.length : Nat) : Int), false, 1⟩, ?_, rfl, rfl, rfl, ⟨⟨c1, by simpa using hlen, ?_, by omega, ?_⟩, ?_, fun k hk => ?_, ?_⟩, by simp, fun i hi => ?_⟩
  · rw [show newH 1 v = ⟨1, 0, v, 0, 0, false, 0⟩ from rfl, solo_on 7 rfl (push0 .. |>.trans (if_pos (by rw [htop]; unfold cntOk; omega))), htop,
      solo_on 6 rfl (push1 .. |>.trans ((if_pos (by rw [hbot]; unfold cntOk; omega)).trans (if_neg (by rw [hbot]; omega)))), hbot,
      solo_on 5 rfl (push2 .. |>.trans (if_neg (by omega))), hsl, solo_on 4 rfl (push3 .. |>.trans (if_neg (by omega)))]
    exact solo_end 4 (by simp)
  · rw [nth_setR _ _ _ _ (by simp; omega), if_neg (by omega), nth_setR _ _ _ _ (by omega), if_neg (by omega)]; exact htop
  · rw [List.length_append]; simp; omega
  · rw [nth_setR _ _ _ _ (by simp; omega), if_pos rfl, List.length_append]; simp; omega
  · have hk2 : k < l.length + 1 := by simpa using hk
    have hm2 := Nat.mod_lt (tp + k) c1
    unfold slV
    rw [nth_setR _ _ _ _ (by simp; omega), if_neg (by omega), nth_setR _ _ _ _ (by omega), nth_app _ _ _ hk2]
    by_cases e : k < l.length
    · have := mod_ne (c := cap) (n := tp + k) (m := tp + l.length) (by omega) (by omega)
      rw [if_neg (by omega), if_pos e]
      exact d.sl k e
    · obtain rfl : k = l.length := by omega
      rw [if_pos hs.symm, if_neg e]
  · rw [List.length_append]; simp; omega
  · rw [nth_setO _ _ _ _ (by omega), nth_setO _ _ _ _ (by omega)]
/-- Popped, and stolen, of none: it stays. -/
theorem solo_pop_none (d : DqI ms base cap tp []) (v : Int) : ∃ h', soloF base cap 8 ms (newH 2 v) = some (ms, h') ∧ h'.state = 2 ∧ h'.kind = 2 := by
  have htop := d.rg.top
  have hbot := d.bot
  have hfew := d.few
  simp only [List.length_nil, Nat.add_zero] at hbot hfew
  have hlen := d.rg.len
  have c1 := d.rg.c1
  have e1 : (ms.set (base + 1) ((tp : Int) - 1)).set (base + 1) (tp : Int) = ms := by rw [List.set_set, ← hbot]; exact set_self ms _
  have ht : nth (ms.set (base + 1) ((tp : Int) - 1)) base = (tp : Int) := by rw [nth_setR _ _ _ _ (by omega), if_neg (by omega)]; exact htop
  refine ⟨⟨2, 3, v, tp, (tp : Int) - 1, false, 2⟩, ?_, rfl, rfl⟩
  rw [show newH 2 v = ⟨2, 0, v, 0, 0, false, 0⟩ from rfl, solo_on 7 rfl (pop0 .. |>.trans (if_pos (by rw [hbot]; unfold cntOk; omega))), hbot,
    solo_on 6 rfl (pop1 .. |>.trans (if_pos (by omega))), solo_on 5 rfl (pop2 .. |>.trans ((if_pos (by rw [ht]; unfold cntOk; omega)).trans (if_pos (by rw [ht]; omega)))), ht,
    solo_on 4 rfl (pop3 .. |>.trans (if_neg (by omega))), e1]
  exact solo_end 4 (by simp)
theorem solo_steal_none (d : DqI ms base cap tp []) (v : Int) : ∃ h', soloF base cap 8 ms (newH 3 v) = some (ms, h') ∧ h'.state = 2 ∧ h'.kind = 3 := by
  have htop := d.rg.top
  have hbot := d.bot
  have hfew := d.few
  simp only [List.length_nil, Nat.add_zero] at hbot hfew
  refine ⟨⟨3, 1, v, tp, tp, false, 2⟩, ?_, rfl, rfl⟩
  rw [show newH 3 v = ⟨3, 0, v, 0, 0, false, 0⟩ from rfl, solo_on 7 rfl (steal0 .. |>.trans (if_pos (by rw [htop]; unfold cntOk; omega))), htop,
    solo_on 6 rfl (steal1 .. |>.trans ((if_pos (by rw [hbot]; unfold cntOk; omega)).trans (if_pos (by rw [hbot]; omega)))), hbot]
  exact solo_end 6 (by simp)
/-- Stolen: the first one. -/
theorem solo_steal (d : DqI ms base cap tp l) (hl : 0 < l.length) (v : Int) :
    ∃ ms' h', soloF base cap 8 ms (newH 3 v) = some (ms', h') ∧ h'.state = 1 ∧ h'.kind = 3 ∧ h'.v = nth l 0 ∧ DqI ms' base cap (tp + 1) (l.drop 1) ∧ ms'.length = ms.length ∧ ∀ i, (i < base ∨ base + 2 + cap ≤ i) → nth ms' i = nth ms i := by
  have htop := d.rg.top
  have hbot := d.bot
  have hfew := d.few
  have hlen := d.rg.len
  have c1 := d.rg.c1
  have hroom := d.rg.room
  have hsl : slI base cap (tp : Int) = base + 2 + tp % cap := slI_nat _ _ _
  have hv := d.sl 0 hl
  rw [Nat.add_zero] at hv
  have hld : (l.drop 1).length = l.length - 1 := by simp
  refine ⟨ms.set base ((tp : Int) + 1), ⟨3, 3, nth l 0, tp, ((tp + l.length : Nat) : Int), false, 1⟩, ?_, rfl, rfl, rfl, ⟨⟨c1, by simpa using hlen, ?_, by omega, by rw [hld]; omega⟩, ?_, fun k hk => ?_, by rw [hld]; omega⟩, by simp, fun i hi => ?_⟩
  · rw [show newH 3 v = ⟨3, 0, v, 0, 0, false, 0⟩ from rfl, solo_on 7 rfl (steal0 .. |>.trans (if_pos (by rw [htop]; unfold cntOk; omega))), htop,
      solo_on 6 rfl (steal1 .. |>.trans ((if_pos (by rw [hbot]; unfold cntOk; omega)).trans (if_neg (by rw [hbot]; omega)))), hbot,
      solo_on 5 rfl (steal2 .. |>.trans (if_neg (by omega))), hsl, show nth ms (base + 2 + tp % cap) = nth l 0 from hv,
      solo_on 4 rfl (steal3 .. |>.trans ((if_neg (by omega)).trans (if_pos htop)))]
    exact solo_end 4 (by simp)
  · rw [nth_setR _ _ _ _ (by omega), if_pos rfl]; rfl
  · rw [nth_setR _ _ _ _ (by omega), if_neg (by omega), hbot, hld]; omega
  · have hk2 : k < l.length - 1 := by rw [hld] at hk; exact hk
    rw [slV_top d.rg, show tp + 1 + k = tp + (k + 1) by omega, d.sl (k + 1) (by omega)]
    simp only [nth, List.getD, List.getElem?_drop]
    rw [show 1 + k = k + 1 by omega]
  · rw [nth_setO _ _ _ _ (by omega)]
/-- Popped: the last one. -/
theorem solo_pop (d : DqI ms base cap tp l) (hl : 0 < l.length) (v : Int) :
    ∃ ms' h' tp', soloF base cap 8 ms (newH 2 v) = some (ms', h') ∧ h'.state = 1 ∧ h'.kind = 2 ∧ h'.v = nth l (l.length - 1) ∧ DqI ms' base cap tp' (l.take (l.length - 1)) ∧ tp' ≤ tp + 1 ∧ ms'.length = ms.length ∧ ∀ i, (i < base ∨ base + 2 + cap ≤ i) → nth ms' i = nth ms i := by
  have htop := d.rg.top
  have hbot := d.bot
  have hfew := d.few
  have hlen := d.rg.len
  have c1 := d.rg.c1
  have hroom := d.rg.room
  obtain ⟨q, hq⟩ : ∃ q, l.length = q + 1 := ⟨l.length - 1, by omega⟩
  have hv := d.sl q (by omega)
  have hsl : slI base cap ((tp + q : Nat) : Int) = base + 2 + (tp + q) % cap := slI_nat _ _ _
  have hsv : ∀ x, nth (ms.set (base + 1) x) (base + 2 + (tp + q) % cap) = nth l q := fun x => (slV_bot d.rg x (tp + q)).trans hv
  have hB : ((tp + l.length : Nat) : Int) - 1 = ((tp + q : Nat) : Int) := by omega
  have hlq : l.length - 1 = q := by omega
  have hlt : (l.take (l.length - 1)).length = q := by rw [List.length_take]; omega
  have ht : ∀ x, nth (ms.set (base + 1) x) base = (tp : Int) := fun x => by rw [nth_setR _ _ _ _ (by omega), if_neg (by omega)]; exact htop
  have s5 : soloF base cap 8 ms (newH 2 v) = soloF base cap 5 (ms.set (base + 1) ((tp + q : Nat) : Int)) ⟨2, 4, v, tp, ((tp + q : Nat) : Int), false, 0⟩ := by
    rw [show newH 2 v = ⟨2, 0, v, 0, 0, false, 0⟩ from rfl, solo_on 7 rfl (pop0 .. |>.trans (if_pos (by rw [hbot]; unfold cntOk; omega))), hbot,
      solo_on 6 rfl (pop1 .. |>.trans (if_pos (by omega))), hB, solo_on 5 rfl (pop2 .. |>.trans ((if_pos (by rw [ht]; unfold cntOk; omega)).trans (if_neg (by rw [ht]; omega)))), ht]
  by_cases h1 : q = 0
  · subst h1
    simp only [Nat.add_zero] at hsl hsv hB s5
    refine ⟨((ms.set (base + 1) (tp : Int)).set base ((tp : Int) + 1)).set (base + 1) ((tp : Int) + 1), ⟨2, 6, nth l 0, tp, tp, true, 1⟩, tp + 1, ?_, rfl, rfl, by rw [hlq], ⟨⟨c1, by simpa using hlen, ?_, by omega, by rw [hlt]; omega⟩, ?_, fun k hk => ?_, by rw [hlt]; omega⟩, Nat.le_refl _, by simp, fun i hi => ?_⟩
    · rw [s5, solo_on 4 rfl (pop4 .. |>.trans ((if_neg (by omega)).trans (if_neg (by omega)))), hsl, hsv,
        solo_on 3 rfl (pop5 .. |>.trans ((if_neg (by omega)).trans (if_pos (ht _)))), solo_on 2 rfl (pop6 .. |>.trans (if_neg (by omega)))]
      exact solo_end 2 (by simp)
    · rw [nth_setR _ _ _ _ (by simp; omega), if_neg (by omega), nth_setR _ _ _ _ (by simp; omega), if_pos rfl]; rfl
    · rw [nth_setR _ _ _ _ (by simp; omega), if_pos rfl, hlt]; omega
    · rw [hlt] at hk; omega
    · rw [nth_setO _ _ _ _ (by omega), nth_setO _ _ _ _ (by omega), nth_setO _ _ _ _ (by omega)]
  · refine ⟨ms.set (base + 1) ((tp + q : Nat) : Int), ⟨2, 4, nth l q, tp, ((tp + q : Nat) : Int), false, 1⟩, tp, ?_, rfl, rfl, by rw [hlq], ⟨⟨c1, by simpa using hlen, ht _, by omega, by rw [hlt]; omega⟩, ?_, fun k hk => ?_, by rw [hlt]; omega⟩, by omega, by simp, fun i hi => ?_⟩
    · rw [s5, solo_on 4 rfl (pop4 .. |>.trans ((if_neg (by omega)).trans (if_pos (by omega)))), hsl, hsv]
      exact solo_end 4 (by simp)
    · rw [nth_setR _ _ _ _ (by omega), if_pos rfl, hlt]
    · have hk2 : k < q := by rw [hlt] at hk; exact hk
      rw [slV_bot d.rg, d.sl k (by omega)]
      simp only [nth, List.getD, List.getElem?_take]
      rw [if_pos (by omega)]
    · rw [nth_setO _ _ _ _ (by omega)]
end

end Go.Proofs.Ytfmiamjbhlglbaa

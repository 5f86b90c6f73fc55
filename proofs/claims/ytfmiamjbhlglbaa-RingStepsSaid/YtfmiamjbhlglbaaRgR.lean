/-
  An owner and others at one deque, in whatever order their accesses come (the document's P7.4): what stays true; when all are done, each number that was pushed was got once, or is there, in order: plain mathematics, over no program.
-/
import Derived.Test.YtfmiamjbhlglbaaRgT
namespace Go.Proofs.Ytfmiamjbhlglbaa

/-- The accesses of a kind. -/
def pcsF (kind : Int) : Int := if kind = 1 ∨ kind = 3 then 4 else if kind = 2 then 7 else 0
/-- A hand may be. -/
def MayH (h : Hd) : Prop := 0 ≤ h.pc ∧ h.pc < pcsF h.kind ∧ cntOk h.t (-1) ∧ cntOk h.b (-1) ∧ 0 ≤ h.state ∧ h.state ≤ 4
instance (h : Hd) : Decidable (MayH h) := by unfold MayH; exact inferInstance
theorem pcs_kind {k : Int} (h : 0 < pcsF k) : k = 1 ∨ k = 2 ∨ k = 3 := by
  unfold pcsF at h
  split at h
  · omega
  · split at h <;> omega
theorem pcs1 : pcsF 1 = 4 := rfl
theorem pcs2 : pcsF 2 = 7 := rfl
theorem pcs3 : pcsF 3 = 4 := rfl

section
variable {ms ms' : List Int} {base cap : Nat} {h h' : Hd}
/-- Behind an access a hand may be. -/
theorem acc_may (hm : MayH h) (ha : accF ms base cap h = some (ms', h')) : MayH h' ∧ h'.kind = h.kind := by
  obtain ⟨a1, a2, ⟨a3, a4⟩, ⟨a5, a6⟩, a7, a8⟩ := hm
  have hk := pcs_kind (k := h.kind) (by omega)
  have fin : ∀ g : Hd, g.kind = h.kind → 0 ≤ g.pc → g.pc < pcsF h.kind → cntOk g.t (-1) → cntOk g.b (-1) → 0 ≤ g.state → g.state ≤ 4 → MayH g ∧ g.kind = h.kind := by
    intro g b1 b2 b3 b4 b5 b6 b7
    exact ⟨⟨b2, by rw [b1]; exact b3, b4, b5, b6, b7⟩, b1⟩
  rcases hk with hk | hk | hk
  · rw [accF, if_pos hk, pushF] at ha
    rw [hk, pcs1] at a2
    replace fin : ∀ g : Hd, g.kind = h.kind → 0 ≤ g.pc → g.pc < 4 → cntOk g.t (-1) → cntOk g.b (-1) → 0 ≤ g.state → g.state ≤ 4 → MayH g ∧ g.kind = h.kind := fun g b1 b2 b3 => fin g b1 b2 (by rw [hk, pcs1]; exact b3)
    split at ha
    · split at ha
      · rename_i q; unfold cntOk at q; injection ha with ha; injection ha with _ ha; subst ha
        exact fin _ rfl (by simp) (by simp) (by unfold cntOk; simp only []; omega) ⟨a5, a6⟩ a7 a8
      · cases ha
    · split at ha
      · split at ha
        · rename_i q; unfold cntOk at q
          split at ha
          · injection ha with ha; injection ha with _ ha; subst ha
            exact fin _ rfl a1 a2 ⟨a3, a4⟩ (by unfold cntOk; simp only []; omega) (by simp) (by simp)
          · injection ha with ha; injection ha with _ ha; subst ha
            exact fin _ rfl (by simp) (by simp) ⟨a3, a4⟩ (by unfold cntOk; simp only []; omega) a7 a8
        · cases ha
      · split at ha
        · cases ha
        · split at ha
          · injection ha with ha; injection ha with _ ha; subst ha
            exact fin _ rfl (by simp) (by simp) ⟨a3, a4⟩ ⟨a5, a6⟩ a7 a8
          · injection ha with ha; injection ha with _ ha; subst ha
            exact fin _ rfl a1 a2 ⟨a3, a4⟩ ⟨a5, a6⟩ (by simp) (by simp)
  · rw [accF, if_neg (by omega), if_pos hk, popF] at ha
    rw [hk, pcs2] at a2
    replace fin : ∀ g : Hd, g.kind = h.kind → 0 ≤ g.pc → g.pc < 7 → cntOk g.t (-1) → cntOk g.b (-1) → 0 ≤ g.state → g.state ≤ 4 → MayH g ∧ g.kind = h.kind := fun g b1 b2 b3 => fin g b1 b2 (by rw [hk, pcs2]; exact b3)
    split at ha
    · split at ha
      · rename_i q; unfold cntOk at q; injection ha with ha; injection ha with _ ha; subst ha
        exact fin _ rfl (by simp) (by simp) ⟨a3, a4⟩ (by unfold cntOk; simp only []; omega) a7 a8
      · cases ha
    · split at ha
      · split at ha
        · injection ha with ha; injection ha with _ ha; subst ha
          exact fin _ rfl (by simp) (by simp) ⟨a3, a4⟩ (by unfold cntOk; simp only []; omega) a7 a8
        · cases ha
      · split at ha
        · split at ha
          · rename_i q; unfold cntOk at q
            split at ha
            · injection ha with ha; injection ha with _ ha; subst ha
              exact fin _ rfl (by simp) (by simp) (by unfold cntOk; simp only []; omega) ⟨a5, a6⟩ a7 a8
            · injection ha with ha; injection ha with _ ha; subst ha
              exact fin _ rfl (by simp) (by simp) (by unfold cntOk; simp only []; omega) ⟨a5, a6⟩ a7 a8
          · cases ha
        · split at ha
          · split at ha
            · cases ha
            · split at ha
              · injection ha with ha; injection ha with _ ha; subst ha
                exact fin _ rfl a1 a2 ⟨a3, a4⟩ ⟨a5, a6⟩ (by simp) (by simp)
              · injection ha with ha; injection ha with _ ha; subst ha
                exact fin _ rfl (by simp) (by simp) ⟨a3, a4⟩ ⟨a5, a6⟩ a7 a8
          · split at ha
            · cases ha
            · split at ha
              · injection ha with ha; injection ha with _ ha; subst ha
                exact fin _ rfl a1 a2 ⟨a3, a4⟩ ⟨a5, a6⟩ (by simp) (by simp)
              · split at ha
                · split at ha
                  · injection ha with ha; injection ha with _ ha; subst ha
                    exact fin _ rfl (by simp) (by simp) ⟨a3, a4⟩ ⟨a5, a6⟩ a7 a8
                  · injection ha with ha; injection ha with _ ha; subst ha
                    exact fin _ rfl (by simp) (by simp) ⟨a3, a4⟩ ⟨a5, a6⟩ a7 a8
                · injection ha with ha; injection ha with _ ha; subst ha
                  exact fin _ rfl a1 a2 ⟨a3, a4⟩ ⟨a5, a6⟩ (by simp only []; split <;> omega) (by simp only []; split <;> omega)
  · rw [accF, if_neg (by omega), if_neg (by omega), stealF] at ha
    rw [hk, pcs3] at a2
    replace fin : ∀ g : Hd, g.kind = h.kind → 0 ≤ g.pc → g.pc < 4 → cntOk g.t (-1) → cntOk g.b (-1) → 0 ≤ g.state → g.state ≤ 4 → MayH g ∧ g.kind = h.kind := fun g b1 b2 b3 => fin g b1 b2 (by rw [hk, pcs3]; exact b3)
    split at ha
    · split at ha
      · rename_i q; unfold cntOk at q; injection ha with ha; injection ha with _ ha; subst ha
        exact fin _ rfl (by simp) (by simp) (by unfold cntOk; simp only []; omega) ⟨a5, a6⟩ a7 a8
      · cases ha
    · split at ha
      · split at ha
        · rename_i q; unfold cntOk at q
          split at ha
          · injection ha with ha; injection ha with _ ha; subst ha
            exact fin _ rfl a1 a2 ⟨a3, a4⟩ (by unfold cntOk; simp only []; omega) (by simp) (by simp)
          · injection ha with ha; injection ha with _ ha; subst ha
            exact fin _ rfl (by simp) (by simp) ⟨a3, a4⟩ (by unfold cntOk; simp only []; omega) a7 a8
        · cases ha
      · split at ha
        · cases ha
        · split at ha
          · injection ha with ha; injection ha with _ ha; subst ha
            exact fin _ rfl (by simp) (by simp) ⟨a3, a4⟩ ⟨a5, a6⟩ a7 a8
          · split at ha
            · injection ha with ha; injection ha with _ ha; subst ha
              exact fin _ rfl a1 a2 ⟨a3, a4⟩ ⟨a5, a6⟩ (by simp) (by simp)
            · injection ha with ha; injection ha with _ ha; subst ha
              exact fin _ rfl a1 a2 ⟨a3, a4⟩ ⟨a5, a6⟩ (by simp) (by simp)
theorem may_new {kind v : Int} (hk : kind = 1 ∨ kind = 2 ∨ kind = 3) : MayH (newH kind v) := by
  rcases hk with rfl | rfl | rfl
  · exact ⟨by simp [newH], by simp [newH, pcs1], by simp [newH, cntOk], by simp [newH, cntOk], by simp [newH], by simp [newH]⟩
  · exact ⟨by simp [newH], by simp [newH, pcs2], by simp [newH, cntOk], by simp [newH, cntOk], by simp [newH], by simp [newH]⟩
  · exact ⟨by simp [newH], by simp [newH, pcs3], by simp [newH, cntOk], by simp [newH, cntOk], by simp [newH], by simp [newH]⟩
end

/-! ### An owner and others -/
def noH : Hd := { kind := 0, pc := 0, v := 0, t := 0, b := 0, won := false, state := 0 }
def hth (hs : List Hd) (i : Nat) : Hd := hs.getD i noH
theorem hth_set (hs : List Hd) (j i : Nat) (x : Hd) (h : i < hs.length) : hth (hs.set j x) i = if j = i then x else hth hs i := by
  simp only [hth, List.getD, List.getElem?_set]
  by_cases e : j = i
  · subst e; simp [h]
  · simp [e]
/-- What stays true in whatever order accesses come. -/
structure RaceI (cap : Nat) (ms : List Int) (hs : List Hd) (G : Int → Nat) (nx left tp lb : Nat) : Prop where
  len : ms.length = cap + 2
  pos : 0 < hs.length
  rg : RgI ms 0 cap tp lb
  ow : OwI ms 0 cap tp lb (hth hs 0)
  th : ∀ i, 0 < i → i < hs.length → ThI ms 0 cap tp lb (hth hs 0) (hth hs i)
  va : VaI ms 0 cap tp lb (hth hs 0) G nx
  few : nx + left ≤ 1000
  own : (hth hs 0).kind = 0 ∨ (hth hs 0).kind = 1 ∨ (hth hs 0).kind = 2
  oth : ∀ i, 0 < i → i < hs.length → (hth hs i).kind = 0 ∨ (hth hs i).kind = 3
  may : ∀ i, i < hs.length → (hth hs i).kind ≠ 0 → MayH (hth hs i)

section
variable {cap nx left tp lb : Nat} {ms : List Int} {hs : List Hd} {G : Int → Nat}
theorem race_start (cap n : Nat) (h : 1 ≤ cap) : RaceI cap (List.replicate (cap + 2) 0) (List.replicate (n + 1) noH) (fun _ => 0) 0 1000 0 0 := by
  have e : ∀ i, hth (List.replicate (n + 1) noH) i = noH := by
    intro i
    simp only [hth, List.getD, List.getElem?_replicate]
    split <;> rfl
  have z : ∀ i, nth (List.replicate (cap + 2) (0 : Int)) i = 0 := by
    intro i
    simp only [nth, List.getD, List.getElem?_replicate]
    split <;> rfl
  refine ⟨by simp, by simp, ⟨h, by simp; omega, by rw [z]; rfl, Nat.le_refl _, by omega⟩, by rw [e]; exact .idle (.inl rfl) (by rw [z]; rfl), fun i _ _ => by simp only [e]; exact .idle (.inl rfl), ?_, by omega, by rw [e]; left; rfl, fun i _ _ => by rw [e]; left; rfl, fun i _ hk => by rw [e] at hk; exact absurd rfl hk⟩
  rw [e]
  exact ⟨fun n m _ _ h => by omega, fun n _ h => by omega, fun q => absurd q.1 (by simp [noH]), fun q => absurd q.1 (by simp [noH]), fun v a b => by omega, fun _ => by simp, fun v a => absurd rfl a, by omega⟩

/-- Somebody goes on. -/
theorem RaceI.acc (r : RaceI cap ms hs G nx left tp lb) {who : Nat} (hw : who < hs.length) (hk : (hth hs who).kind ≠ 0) (hst : (hth hs who).state = 0) :
    ∃ ms' h' tp' lb', accF ms 0 cap (hth hs who) = some (ms', h') ∧ RaceI cap ms' (hs.set who h') (gotH G h') nx left tp' lb' ∧ (h'.state ≠ 0 ∨ (hth hs who).pc < h'.pc) ∧ h'.kind = (hth hs who).kind := by
  have hf : nx ≤ 1000000 := by have := r.few; omega
  by_cases h0 : who = 0
  · subst h0
    have hst' : ∃ ms' o' tp' lb', accF ms 0 cap (hth hs 0) = some (ms', o') ∧ OwStep ms 0 cap tp lb (hth hs 0) G nx ms' o' tp' lb' := by
      rcases r.own with h | h | h
      · exact absurd h hk
      · exact own_push r.rg r.ow r.va h hst hf
      · exact own_pop r.rg r.ow r.va h hst hf
    obtain ⟨ms', o', tp', lb', ha, s⟩ := hst'
    have e0 : hth (hs.set 0 o') 0 = o' := by rw [hth_set _ _ _ _ r.pos, if_pos rfl]
    have ei : ∀ i, 0 < i → i < hs.length → hth (hs.set 0 o') i = hth hs i := fun i h1 h2 => by rw [hth_set _ _ _ _ h2, if_neg (by omega)]
    have hmay := acc_may (r.may 0 r.pos hk) ha
    refine ⟨ms', o', tp', lb', ha, ⟨s.len.trans r.len, by simpa using r.pos, s.rg, by rw [e0]; exact s.ow, fun i h1 h2 => ?_, by rw [e0]; exact s.va, r.few, by rw [e0, s.kind]; exact r.own, fun i h1 h2 => ?_, fun i h1 h2 => ?_⟩, s.pc, s.kind⟩
    · rw [List.length_set] at h2
      rw [e0, ei i h1 h2]; exact s.th _ (r.th i h1 h2)
    · rw [List.length_set] at h2
      rw [ei i h1 h2]; exact r.oth i h1 h2
    · rw [List.length_set] at h1
      by_cases e : i = 0
      · subst e; rw [e0]; exact hmay.1
      · rw [ei i (by omega) h1] at h2 ⊢; exact r.may i h1 h2
  · have hk3 : (hth hs who).kind = 3 := by
      rcases r.oth who (by omega) hw with h | h
      · exact absurd h hk
      · exact h
    obtain ⟨ms', h', tp', ha, s⟩ := other_steal r.rg r.ow (r.th who (by omega) hw) r.va hk3 hst hf
    have e0 : hth (hs.set who h') 0 = hth hs 0 := by rw [hth_set _ _ _ _ r.pos, if_neg h0]
    have hmay := acc_may (r.may who hw hk) ha
    refine ⟨ms', h', tp', lb, ha, ⟨s.len.trans r.len, by simpa using r.pos, s.rg, by rw [e0]; exact s.ow, fun i h1 h2 => ?_, by rw [e0]; exact s.va, r.few, by rw [e0]; exact r.own, fun i h1 h2 => ?_, fun i h1 h2 => ?_⟩, s.pc, s.kind⟩
    · rw [List.length_set] at h2
      rw [e0, hth_set _ _ _ _ h2]
      split
      · exact s.me
      · exact s.th _ (r.th i h1 h2)
    · rw [List.length_set] at h2
      rw [hth_set _ _ _ _ h2]
      split
      · right; rw [s.kind]; exact hk3
      · exact r.oth i h1 h2
    · rw [List.length_set] at h1
      rw [hth_set _ _ _ _ h1] at h2 ⊢
      split
      · exact hmay.1
      · rename_i e; rw [if_neg e] at h2; exact r.may i h1 h2

/-- Somebody begins anew. -/
theorem RaceI.new_other (r : RaceI cap ms hs G nx (left + 1) tp lb) {who : Nat} (h0 : 0 < who) : RaceI cap ms (hs.set who (newH 3 0)) G nx left tp lb := by
  have e0 : hth (hs.set who (newH 3 0)) 0 = hth hs 0 := by rw [hth_set _ _ _ _ r.pos, if_neg (by omega)]
  refine ⟨r.len, by simpa using r.pos, r.rg, by rw [e0]; exact r.ow, fun i h1 h2 => ?_, by rw [e0]; exact r.va, by have := r.few; omega, by rw [e0]; exact r.own, fun i h1 h2 => ?_, fun i h1 h2 => ?_⟩
  · rw [List.length_set] at h2
    rw [e0, hth_set _ _ _ _ h2]
    split
    · exact .steal0 rfl rfl rfl
    · exact r.th i h1 h2
  · rw [List.length_set] at h2
    rw [hth_set _ _ _ _ h2]
    split
    · exact .inr rfl
    · exact r.oth i h1 h2
  · rw [List.length_set] at h1
    rw [hth_set _ _ _ _ h1] at h2 ⊢
    split
    · exact may_new (.inr (.inr rfl))
    · rename_i e; rw [if_neg e] at h2; exact r.may i h1 h2
theorem RaceI.new_own (r : RaceI cap ms hs G nx (left + 1) tp lb) (h : (hth hs 0).kind = 0 ∨ (hth hs 0).state ≠ 0) {k v : Int} {nx' : Nat} (hk : k = 1 ∨ k = 2) (hv : VaI ms 0 cap tp lb (newH k v) G nx') (hn : nx' ≤ nx + 1) : RaceI cap ms (hs.set 0 (newH k v)) G nx' left tp lb := by
  have e0 : hth (hs.set 0 (newH k v)) 0 = newH k v := by rw [hth_set _ _ _ _ r.pos, if_pos rfl]
  have ei : ∀ i, 0 < i → i < hs.length → hth (hs.set 0 (newH k v)) i = hth hs i := fun i h1 h2 => by rw [hth_set _ _ _ _ h2, if_neg (by omega)]
  have hb := ow_bottom r.ow h
  refine ⟨r.len, by simpa using r.pos, r.rg, ?_, fun i h1 h2 => ?_, by rw [e0]; exact hv, by have := r.few; omega, by rw [e0]; simp only [newH]; omega, fun i h1 h2 => ?_, fun i h1 h2 => ?_⟩
  · rw [e0]
    rcases hk with rfl | rfl
    · exact .push0 rfl rfl rfl hb
    · exact .pop0 rfl rfl rfl hb
  · rw [List.length_set] at h2
    rw [e0, ei i h1 h2]
    exact (r.th i h1 h2).new_ (fun q => absurd q.2.2.1 (by simp [newH]))
  · rw [List.length_set] at h2
    rw [ei i h1 h2]; exact r.oth i h1 h2
  · rw [List.length_set] at h1
    by_cases e : i = 0
    · subst e; rw [e0]; exact may_new (by omega)
    · rw [ei i (by omega) h1] at h2 ⊢; exact r.may i h1 h2
theorem RaceI.new_push (r : RaceI cap ms hs G nx (left + 1) tp lb) (h : (hth hs 0).kind = 0 ∨ (hth hs 0).state ≠ 0) : RaceI cap ms (hs.set 0 (newH 1 ((nx + 1 : Nat) : Int))) G (nx + 1) left tp lb :=
  r.new_own h (.inl rfl) (r.va.new_push h) (Nat.le_refl _)
theorem RaceI.new_pop (r : RaceI cap ms hs G nx (left + 1) tp lb) (h : (hth hs 0).kind = 0 ∨ (hth hs 0).state ≠ 0) : RaceI cap ms (hs.set 0 (newH 2 0)) G nx left tp lb :=
  r.new_own h (.inr rfl) (r.va.new_pop h) (by omega)
theorem RaceI.no_more (r : RaceI cap ms hs G nx left tp lb) : RaceI cap ms hs G nx 0 tp lb :=
  ⟨r.len, r.pos, r.rg, r.ow, r.th, r.va, by have := r.few; omega, r.own, r.oth, r.may⟩
/-- When the owner is done: the bottom, and what became of each number. -/
theorem RaceI.end_ (r : RaceI cap ms hs G nx left tp lb) (h : (hth hs 0).kind = 0 ∨ (hth hs 0).state ≠ 0) :
    nth ms 0 = (tp : Int) ∧ nth ms 1 = (lb : Int) ∧ tp ≤ lb ∧ lb ≤ tp + cap ∧ lb ≤ 1000 ∧ ∀ v : Int, 1 ≤ v → v ≤ nx → G v = 1 ∨ ∃ n, tp ≤ n ∧ n < lb ∧ slV ms 0 cap n = v := by
  obtain ⟨hp, hw, _⟩ := idle_puts (lb := lb) h
  have hb := ow_bottom r.ow h
  refine ⟨r.rg.top, hb, r.rg.le, r.rg.room, by have := r.va.lbn; have := r.few; omega, fun v a b => ?_⟩
  rcases r.va.all v a b with c | c | ⟨c, _⟩ | ⟨c, _⟩
  · exact .inl c
  · exact .inr c
  · exact absurd c hp
  · exact absurd c hw
end

end Go.Proofs.Ytfmiamjbhlglbaa

/-
  RingOnce's end (layer 7): what is there, as a list; behind adding it each number is got once: plain mathematics.
-/
import Derived.Test.YtfmiamjbhlglbaaSm
import Derived.Test.YtfmiamjbhlglbaaCm
namespace Go.Proofs.Ytfmiamjbhlglbaa

/-- Numbers that rise, none got yet, and with them all are. -/
structure OnL (l : List Int) (G : Int → Nat) (nx : Nat) : Prop where
  inc : ∀ i j, i < j → j < l.length → nth l i < nth l j
  rng : ∀ i, i < l.length → 1 ≤ nth l i ∧ nth l i ≤ nx ∧ G (nth l i) = 0
  all : ∀ v : Int, 1 ≤ v → v ≤ nx → G v = 1 ∨ ∃ i, i < l.length ∧ nth l i = v
  one : ∀ v, G v ≤ 1
  out : ∀ v, G v ≠ 0 → 1 ≤ v ∧ v ≤ nx
/-- The first k of a list are got too. -/
def gotK (G : Int → Nat) (l : List Int) : Nat → Int → Nat
  | 0 => G
  | k + 1 => gotF (gotK G l k) (nth l k)
/-- The last one of the first k. -/
def lastK (l : List Int) (k : Nat) : Int := if k = 0 then 0 else nth l (k - 1)

section
variable {l : List Int} {G : Int → Nat} {nx : Nat}
theorem OnL.val (o : OnL l G nx) : ∀ k, k ≤ l.length → ∀ v, (∃ i, i < k ∧ nth l i = v) ∧ gotK G l k v = 1 ∨ (¬ ∃ i, i < k ∧ nth l i = v) ∧ gotK G l k v = G v := by
  intro k
  induction k with
  | zero => intro _ v; exact .inr ⟨fun ⟨i, h, _⟩ => by omega, rfl⟩
  | succ k ih =>
    intro hk v
    have e : gotK G l (k + 1) = gotF (gotK G l k) (nth l k) := rfl
    rw [e]
    by_cases hv : nth l k = v
    · subst hv
      rw [gotF_same]
      rcases ih (by omega) (nth l k) with ⟨⟨i, h1, h2⟩, _⟩ | ⟨_, h2⟩
      · have := o.inc i k h1 (by omega); omega
      · exact .inl ⟨⟨k, by omega, rfl⟩, by rw [h2, (o.rng k (by omega)).2.2]⟩
    · rw [gotF_other _ (fun q => hv q.symm)]
      rcases ih (by omega) v with ⟨⟨i, h1, h2⟩, h3⟩ | ⟨h1, h2⟩
      · exact .inl ⟨⟨i, by omega, h2⟩, h3⟩
      · refine .inr ⟨fun ⟨i, h3, h4⟩ => ?_, h2⟩
        by_cases hi : i = k
        · subst hi; exact hv h4
        · exact h1 ⟨i, by omega, h4⟩
theorem OnL.next (o : OnL l G nx) {k : Nat} (hk : k < l.length) : lastK l k < nth l k ∧ gotK G l k (nth l k) = 0 := by
  constructor
  · unfold lastK
    split
    · have := (o.rng k hk).1; omega
    · exact o.inc (k - 1) k (by omega) hk
  · rcases o.val k (by omega) (nth l k) with ⟨⟨i, h1, h2⟩, _⟩ | ⟨_, h2⟩
    · have := o.inc i k h1 hk; omega
    · rw [h2, (o.rng k hk).2.2]
theorem OnL.few (o : OnL l G nx) {k : Nat} (hk : k ≤ l.length) (v : Int) : gotK G l k v ≤ 1 := by
  rcases o.val k hk v with ⟨_, h⟩ | ⟨_, h⟩
  · omega
  · rw [h]; exact o.one v
theorem lastK_succ (l : List Int) (k : Nat) : lastK l (k + 1) = nth l k := by unfold lastK; rw [if_neg (by omega)]; rfl
/-- In the end each number is got once, and none else. -/
theorem OnL.end_ (o : OnL l G nx) (v : Int) : (1 ≤ v ∧ v ≤ nx → gotK G l l.length v = 1) ∧ (gotK G l l.length v ≠ 0 → 1 ≤ v ∧ v ≤ nx) := by
  rcases o.val l.length (Nat.le_refl _) v with ⟨⟨i, h1, h2⟩, h3⟩ | ⟨h1, h2⟩
  · have := o.rng i h1
    subst h2
    exact ⟨fun _ => h3, fun _ => ⟨this.1, this.2.1⟩⟩
  · refine ⟨fun ⟨a, b⟩ => ?_, fun q => ?_⟩
    · rw [h2]
      exact (o.all v a b).resolve_right h1
    · rw [h2] at q
      exact o.out v q
end

/-- What is there at the end. -/
def thereL (ms : List Int) (cap tp lb : Nat) : List Int := (List.range (lb - tp)).map fun i => slV ms 0 cap (tp + i)
theorem thereL_len (ms : List Int) (cap tp lb : Nat) : (thereL ms cap tp lb).length = lb - tp := by simp [thereL]
theorem thereL_nth {ms : List Int} {cap tp lb i : Nat} (h : i < lb - tp) : nth (thereL ms cap tp lb) i = slV ms 0 cap (tp + i) := by
  rw [nth_get (by rw [thereL_len]; exact h)]
  simp [thereL]
section
variable {cap nx left tp lb : Nat} {ms : List Int} {hs : List Hd} {G : Int → Nat}
theorem RaceI.list (r : RaceI cap ms hs G nx left tp lb) (h : (hth hs 0).kind = 0 ∨ (hth hs 0).state ≠ 0) (hq : MayQ ms.length 0 cap) : listF ms 0 cap = (0, thereL ms cap tp lb) := by
  obtain ⟨htop, hbot, hle, hroom, hfew, -⟩ := r.end_ h
  unfold listF
  rw [if_pos hq, Int.toNat_natCast, show (0 : Int).toNat = 0 from rfl, show 0 + 1 = 1 from rfl, htop, hbot, if_pos (by unfold LstOk cntOk; rw [show 0 + 1 = 1 from rfl, htop, hbot]; omega)]
  congr 1
  have hk : ((lb : Int) - (tp : Int)).toNat = lb - tp := by omega
  rw [hk]
  unfold thereL lstP
  refine List.map_congr_left fun i _ => ?_
  rw [← Int.natCast_add, slI_nat]
  rfl
theorem RaceI.onl (r : RaceI cap ms hs G nx left tp lb) (h : (hth hs 0).kind = 0 ∨ (hth hs 0).state ≠ 0) : OnL (thereL ms cap tp lb) G nx := by
  obtain ⟨-, -, hle, hroom, -, hall⟩ := r.end_ h
  refine ⟨fun i j hi hj => ?_, fun i hi => ?_, fun v a b => ?_, r.va.one, r.va.out⟩
  · rw [thereL_len] at hj
    rw [thereL_nth (by omega), thereL_nth hj]
    exact r.va.inc _ _ (by omega) (by omega) (by omega)
  · rw [thereL_len] at hi
    rw [thereL_nth hi]
    exact r.va.rng _ (by omega) (by omega)
  · rcases hall v a b with h | ⟨n, h1, h2, h3⟩
    · exact .inl h
    · refine .inr ⟨n - tp, by rw [thereL_len]; omega, ?_⟩
      rw [thereL_nth (by omega), show tp + (n - tp) = n by omega]
      exact h3
end

/-- All hands up to one are done. -/
def DoneTo (hs : List Hd) (k : Nat) : Prop := ∀ i, i < k → (hth hs i).kind = 0 ∨ (hth hs i).state ≠ 0
theorem DoneTo.set {hs : List Hd} {k : Nat} (h : DoneTo hs k) {who : Nat} (hw : k ≤ who) (hl : who < hs.length) (x : Hd) : DoneTo (hs.set who x) k := by
  intro i hi
  rw [hth_set _ _ _ _ (by omega), if_neg (by omega)]
  exact h i hi
/-- Ten turns are enough: a hand that still goes on has come as far as there were turns. -/
def FarT (h : Hd) (j : Nat) : Prop := h.kind = 0 ∨ h.state ≠ 0 ∨ (j : Int) ≤ h.pc
theorem FarT.step {h h' : Hd} {j : Nat} (f : FarT h j) (hk : h.kind ≠ 0) (hst : h.state = 0) (hp : h'.state ≠ 0 ∨ h.pc < h'.pc) : FarT h' (j + 1) := by
  rcases hp with hp | hp
  · exact .inr (.inl hp)
  · rcases f with f | f | f
    · exact absurd f hk
    · exact absurd hst f
    · exact .inr (.inr (by omega))
theorem FarT.done {h : Hd} (f : FarT h 10) (hm : h.kind ≠ 0 → MayH h) : h.kind = 0 ∨ h.state ≠ 0 := by
  rcases f with f | f | f
  · exact .inl f
  · exact .inr f
  · by_cases hk : h.kind = 0
    · exact .inl hk
    · obtain ⟨-, h2, -⟩ := hm hk
      have h3 : pcsF h.kind ≤ 7 := by unfold pcsF; split <;> (try split) <;> omega
      omega
theorem FarT.idle {h : Hd} {j : Nat} (hi : h.kind = 0 ∨ h.state ≠ 0) : FarT h j := hi.elim .inl fun q => .inr (.inl q)

end Go.Proofs.Ytfmiamjbhlglbaa

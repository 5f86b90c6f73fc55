/-
  A slice of hands, of the call's own: read, stored into, copied.
-/
import Derived.Test.YtfmiamjbhlglbaaSa
import Derived.Maps.AppendAt
namespace Go.Proofs.Ytfmiamjbhlglbaa
open Go.RowKit

/-- A row of hands that the call has made itself. -/
def OwnH (w : World) (base : Nat) (A : Option Addr) (hs : List Hd) : Prop :=
  ∃ g cs, A = some ⟨g, 0, none⟩ ∧ base ≤ g ∧ Bk w g 27 cs ∧ hs.length * 7 ≤ cs.size ∧ ∀ i, i < hs.length → ∀ j, j < 7 → cs[i * 7 + j]? = (hc (hth hs i))[j]?

section
variable {w w' : World} {base : Nat} {A : Option Addr} {hs : List Hd}
theorem OwnH.below (h : OwnH w base A hs) (hb : Below w.heap.size w w') : OwnH w' base A hs := by
  obtain ⟨g, cs, e, h1, h2, h3, h4⟩ := h
  exact ⟨g, cs, e, h1, h2.below hb h2.lt, h3, h4⟩
theorem OwnH.grown (h : OwnH w base A hs) {row : Option Nat} (hg : w.grownBy w' row) (hne : ∀ k, row = some k → ∀ a, A = some a → a.block ≠ k) : OwnH w' base A hs := by
  obtain ⟨g, cs, e, h1, h2, h3, h4⟩ := h
  exact ⟨g, cs, e, h1, h2.grown hg (fun e2 => hne g e2.symm _ e rfl), h3, h4⟩
theorem OwnH.base_ {base' : Nat} (h : OwnH w base A hs) (hb : base' ≤ base) : OwnH w base' A hs := by
  obtain ⟨g, cs, e, h1, h2, h3, h4⟩ := h
  exact ⟨g, cs, e, Nat.le_trans hb h1, h2, h3, h4⟩
theorem OwnH.form (h : OwnH w base A hs) : ∃ g, A = some ⟨g, 0, none⟩ ∧ base ≤ g ∧ g < w.heap.size := by
  obtain ⟨g, cs, e, h1, h2, h3, h4⟩ := h
  exact ⟨g, e, h1, h2.lt⟩
/-- One hand's cells. -/
theorem OwnH.at_ {g : Nat} (h : OwnH w base (some ⟨g, 0, none⟩) hs) {i : Nat} (hi : i < hs.length) : (∀ j, j < 7 → w.cell? ⟨g, i * 7 + j, none⟩ = (hc (hth hs i))[j]?) ∧ ∀ j, w.frozen? ⟨g, j, none⟩ = false := by
  obtain ⟨g', cs, e, h1, h2, h3, h4⟩ := h
  injection e with e
  injection e with e _ _
  subst e
  exact ⟨fun j hj => (h2.cell _).trans (h4 i hi j hj), fun j => h2.frozen j⟩
/-- A hand is stored whole at its place. -/
def set7a (W : World) (g o : Nat) (v0 v1 v2 v3 v4 v5 v6 : Value) : World := ((((((W.setCell ⟨g, o, none⟩ v0).setCell ⟨g, o + 1, none⟩ v1).setCell ⟨g, o + 2, none⟩ v2).setCell ⟨g, o + 3, none⟩ v3).setCell ⟨g, o + 4, none⟩ v4).setCell ⟨g, o + 5, none⟩ v5).setCell ⟨g, o + 6, none⟩ v6
theorem OwnH.put {g : Nat} (h : OwnH w base (some ⟨g, 0, none⟩) hs) {i : Nat} (hi : i < hs.length) (x : Hd) :
    OwnH (set7a w g (i * 7) (.int .i64 x.kind) (.int .i64 x.pc) (.int .i64 x.v) (.int .i64 x.t) (.int .i64 x.b) (.bool x.won) (.int .i64 x.state)) base (some ⟨g, 0, none⟩) (hs.set i x) := by
  obtain ⟨g', cs, e, h1, h2, h3, h4⟩ := h
  injection e with e
  injection e with e _ _
  subst e
  refine ⟨g, _, rfl, h1, ((((((h2.set_ (i * 7) _).set_ (i * 7 + 1) _).set_ (i * 7 + 2) _).set_ (i * 7 + 3) _).set_ (i * 7 + 4) _).set_ (i * 7 + 5) _).set_ (i * 7 + 6) _, by simpa using h3, fun k hk j hj => ?_⟩
  have hk2 : k < hs.length := by simpa using hk
  rw [hth_set _ _ _ _ hk2]
  by_cases e : i = k
  · subst e
    rw [if_pos rfl]
    have hsz : i * 7 + 7 ≤ cs.size := by omega
    have hj' : j = 0 ∨ j = 1 ∨ j = 2 ∨ j = 3 ∨ j = 4 ∨ j = 5 ∨ j = 6 := by omega
    rcases hj' with rfl | rfl | rfl | rfl | rfl | rfl | rfl
    all_goals
      simp only [Array.getElem?_setIfInBounds, Array.size_setIfInBounds, hc]
      simp
      try omega
  · rw [if_neg e, ← h4 k hk2 j hj]
    simp only [Array.getElem?_setIfInBounds, Array.size_setIfInBounds]
    repeat rw [if_neg (by omega)]
end

theorem below_set7a {B : Nat} {w W : World} (h : Below B w W) {g : Nat} (hg : B ≤ g) (o : Nat) (v0 v1 v2 v3 v4 v5 v6 : Value) : Below B w (set7a W g o v0 v1 v2 v3 v4 v5 v6) :=
  ((((((h.setCell (p := ⟨g, o, none⟩) hg v0).setCell (p := ⟨g, o + 1, none⟩) hg v1).setCell (p := ⟨g, o + 2, none⟩) hg v2).setCell (p := ⟨g, o + 3, none⟩) hg v3).setCell (p := ⟨g, o + 4, none⟩) hg v4).setCell (p := ⟨g, o + 5, none⟩) hg v5).setCell (p := ⟨g, o + 6, none⟩) hg v6
theorem Bk.far7a {W : World} {g g' o : Nat} {t : TypeId} {cs : Array Value} (h : Bk W g t cs) (hne : g ≠ g') (v0 v1 v2 v3 v4 v5 v6 : Value) : Bk (set7a W g' o v0 v1 v2 v3 v4 v5 v6) g t cs :=
  ((((((h.far (p := ⟨g', o, none⟩) hne v0).far (p := ⟨g', o + 1, none⟩) hne v1).far (p := ⟨g', o + 2, none⟩) hne v2).far (p := ⟨g', o + 3, none⟩) hne v3).far (p := ⟨g', o + 4, none⟩) hne v4).far (p := ⟨g', o + 5, none⟩) hne v5).far (p := ⟨g', o + 6, none⟩) hne v6
theorem grown_set7a (W : World) (g o : Nat) (v0 v1 v2 v3 v4 v5 v6 : Value) : W.grownBy (set7a W g o v0 v1 v2 v3 v4 v5 v6) (some g) :=
  ((((((grown_set (w := W) (g := g) (i := o) v0).trans (grown_set v1)).trans (grown_set v2)).trans (grown_set v3)).trans (grown_set v4)).trans (grown_set v5)).trans (grown_set v6)

/-- The cells of hands, one behind the other. -/
def hcl (hs : List Hd) : List Value := hs.flatMap fun h => (hc h).toList
theorem hcl_len (hs : List Hd) : (hcl hs).length = hs.length * 7 := by
  induction hs with
  | nil => rfl
  | cons x p ih => simp only [hcl, List.flatMap_cons, List.length_append, List.length_cons] at ih ⊢; rw [ih]; simp [hc]; omega
theorem hcl_at (hs : List Hd) : ∀ {i j : Nat}, i < hs.length → j < 7 → (hcl hs)[i * 7 + j]? = (hc (hth hs i))[j]? := by
  induction hs with
  | nil => intro i j hi; simp at hi
  | cons x p ih =>
    intro i j hi hj
    match i with
    | 0 =>
      simp only [hcl, List.flatMap_cons]
      rw [List.getElem?_append_left (by simp [hc]; omega)]
      simp [hth]
    | i + 1 =>
      have := ih (i := i) (j := j) (by simpa using hi) hj
      rw [show (i + 1) * 7 + j = (hc x).toList.length + (i * 7 + j) by simp [hc]; omega]
      simp only [hcl, List.flatMap_cons]
      rw [List.getElem?_append_right (by omega)]
      rw [show (hc x).toList.length + (i * 7 + j) - (hc x).toList.length = i * 7 + j by omega]
      exact this
theorem hcl_one (hs : List Hd) : ∀ u ∈ hcl hs, u.oneCell' = true := by
  intro u hu
  obtain ⟨x, _, hx⟩ := List.mem_flatMap.1 hu
  simp only [hc, List.mem_cons, List.not_mem_nil, or_false] at hx
  rcases hx with rfl | rfl | rfl | rfl | rfl | rfl | rfl <;> rfl
theorem own_of_row {w : World} {base : Nat} {A : Option Addr} {n c : Nat} {hs : List Hd} (hn : n = hs.length) (h0 : 0 < hs.length) (h : w.ownsRow base 27 7 (.slice A n c) n (hcl hs)) : OwnH w base A hs := by
  subst hn
  rcases h.2 with ⟨-, e⟩ | ⟨g, cap, cur, e, hb, hh, hcap, hm, hs2, ht⟩
  · omega
  · injection e with e1 e2 e3
    subst e1
    refine ⟨g, cur, rfl, hb, hh, by have := Nat.mul_le_mul_right 7 hcap; omega, fun i hi j hj => ?_⟩
    rw [← hcl_at hs hi hj, ← ht, List.getElem?_take, if_pos (by omega)]
    simp
theorem OwnH.src {w : World} {base g : Nat} {hs : List Hd} (h : OwnH w base (some ⟨g, 0, none⟩) hs) : ∀ j u, (hcl hs)[j]? = some u → w.cell? ((⟨g, 0, none⟩ : Addr).add j) = some u := by
  intro j u hu
  have hj : j < hs.length * 7 := by rw [← hcl_len]; exact (List.getElem?_eq_some_iff.1 hu).1
  rw [Addr.add_lit, Nat.zero_add]
  have h1 := (h.at_ (i := j / 7) (by omega)).1 (j % 7) (by omega)
  have h2 := hcl_at hs (i := j / 7) (j := j % 7) (by omega) (by omega)
  rw [show j / 7 * 7 + j % 7 = j by omega] at h1 h2
  rw [h1, ← h2]
  exact hu

theorem infoH : (Try.prog.info? 27).map (fun i => (i.zero, i.size, i.bytes)) = some (some (.agg #[.int .i64 0, .int .i64 0, .int .i64 0, .int .i64 0, .int .i64 0, .bool false, .int .i64 0]), 7, 56) := by kernel_rfl
/-- append(nil, hands...): a copy. -/
theorem run_copyH (w : World) (base g c : Nat) (hs : List Hd) (h : OwnH w base (some ⟨g, 0, none⟩) hs) (h0 : 0 < hs.length) (hl : hs.length ≤ 1000) :
    ∃ A' c' w', (Builtin.append_ #[46, 46] 46 #[.slice none 0 0, .slice (some ⟨g, 0, none⟩) hs.length c]).run Try.prog w = .ok (.slice A' hs.length c') w' ∧ OwnH w' w.heap.size A' hs ∧ Below w.heap.size w w' := by
  obtain ⟨i, hi, hz0, hz1, hz2⟩ := info_parts infoH
  obtain ⟨v', w', hr, h2, h3, _⟩ := run_append_own_at (P := Try.prog) w w.heap.size 46 46 27 i _ 7 56 Try.underlying46 hi hz0 hz1 hz2 rfl (by decide) _ _ _ (World.ownsRow_nil w w.heap.size 27 7) ⟨g, 0, none⟩ hs.length c (hcl hs) (hcl_len hs) h.src (hcl_one hs)
    (by unfold maxLen; omega) (by omega) (Nat.le_refl _)
  rw [Nat.zero_add, List.nil_append] at h2
  have e : ∃ A' c', v' = .slice A' hs.length c' := by
    rcases h2.2 with ⟨rfl, h0'⟩ | ⟨g, cap, cur, rfl, _⟩
    · omega
    · exact ⟨_, cap, rfl⟩
  obtain ⟨A', c', rfl⟩ := e
  exact ⟨A', c', w', hr, own_of_row rfl h0 h2, ⟨h3.os, h3.tape, h3.output, h3.size, fun k hk => h3.block k hk (by simp [Value.ownBlock])⟩⟩

end Go.Proofs.Ytfmiamjbhlglbaa

/-
  A map from int64 to int of the call's own, that counts: made, kept, looked up, one more; which keys it has.
-/
import Derived.Test.YtfmiamjbhlglbaaNm
import Derived.Maps.OwnSet
import Derived.Maps.Views
namespace Go.Proofs.Ytfmiamjbhlglbaa
open Go.RowKit Go.Maps

theorem Try.zeroIntC (w : World) : (zeroValue 3).run Try.prog w = .ok (.int .i64 0) w := by kernel_rfl
theorem Try.lawI64C : Keyed Try.prog 2 := int_keyed Try.underlying2
theorem keyI64C {x : Int} (h : Fit x) : keyOf Try.prog 2 (.int .i64 x) = some (.int .i64 x) := keyOf_int_mk Try.underlying2 (wf_of_fit h)

/-- Block b is a map of at most n keys, those of ks, that reads as G. -/
structure CMapD (w : World) (b n : Nat) (G : Int → Nat) (D : DataW Unit) (ks : List Int) : Prop where
  own : w.ownsMap Try.prog 2 (plainElem Try.prog 3) b n D
  at_ : ∀ x, D.atKey (.int .i64 x) (.lit (.int .i64 0)) = .lit (.int .i64 (G x : Nat))
  has : ∀ x, Maps.has D (.int .i64 x) = decide (x ∈ ks)
  size : Maps.size D = ks.length
  nd : ks.Nodup
  pos : ∀ x, x ∈ ks ↔ G x ≠ 0
def CMap (w : World) (b n : Nat) (G : Int → Nat) : Prop := ∃ D ks, CMapD w b n G D ks

section
variable {w w' : World} {b n : Nat} {G : Int → Nat}
theorem CMap.made (w : World) : CMap (w.alloc (.map #[] 0)) w.heap.size 0 fun _ => 0 :=
  ⟨.map [], [], World.ownsMap_made w _ _ _, fun _ => rfl, fun _ => by simp [Maps.has], rfl, List.nodup_nil, fun x => by simp⟩
theorem CMap.grown (h : CMap w b n G) {row : Option Nat} (hg : w.grownBy w' row) (hne : some b ≠ row) : CMap w' b n G := by
  obtain ⟨D, ks, h⟩ := h
  exact ⟨D, ks, h.own.kept hg hne, h.at_, h.has, h.size, h.nd, h.pos⟩
theorem CMap.below (h : CMap w b n G) (hb : Below w.heap.size w w') : CMap w' b n G := h.grown (row := none) (Below.gb hb) (by simp)
theorem CMap.lt (h : CMap w b n G) : b < w.heap.size := by obtain ⟨D, ks, h⟩ := h; exact h.own.lt
theorem CMap.mono {n' : Nat} (h : CMap w b n G) (hn : n ≤ n') : CMap w b n' G := by
  obtain ⟨D, ks, h⟩ := h
  exact ⟨D, ks, h.own.mono hn, h.at_, h.has, h.size, h.nd, h.pos⟩

theorem CMap.lookup (h : CMap w b n G) {x : Int} (hx : Fit x) : (Instr.lookup 47 (.map (some b)) (.int .i64 x) false).run Try.prog w = .ok (.int .i64 (G x : Nat)) w := by
  obtain ⟨D, ks, h⟩ := h
  obtain ⟨c, hrun, hat, _⟩ := h.own.lookup_int Try.lawI64C Try.underlying47 Try.underlying3 (Try.zeroIntC w) (keyI64C hx)
  rw [h.at_] at hat
  have : ((G x : Nat) : Int) = c := by injection hat with e; injection e
  rw [hrun, this]

theorem CMap.update (h : CMap w b n G) {x : Int} (hx : Fit x) (hn : n < 2000) (hg : G x < 2000) :
    ∃ w', (Instr.mapUpdate 47 (.map (some b)) (.int .i64 x) (.int .i64 ((G x : Nat) + 1 : Int))).run Try.prog w = .ok () w' ∧ CMap w' b (n + 1) (gotF G x) ∧ w.grownBy w' (some b) := by
  obtain ⟨D, ks, h⟩ := h
  obtain ⟨w', hrun, h1, h2⟩ := h.own.update Try.lawI64C Try.underlying47 (by unfold maxLen; omega) (keyI64C hx) (plainElem_int (a := ((G x : Nat) : Int) + 1) Try.underlying3 (wf_of_fit ⟨by omega, by omega⟩))
  refine ⟨w', hrun, ⟨_, if x ∈ ks then ks else x :: ks, h1, fun y => ?_, fun y => ?_, ?_, ?_, fun y => ?_⟩, h2⟩
  · by_cases e : y = x
    · subst e
      rw [atKey_put_same h.own.isMap (by trivial)]
      unfold gotF
      rw [if_pos rfl]
      rfl
    · rw [atKey_put_other (by intro e'; injection e' with _ e'; exact e e'), h.at_]
      unfold gotF
      rw [if_neg e]
  · by_cases e : y = x
    · subst e
      rw [has_put_same h.own.isMap (by trivial)]
      symm
      by_cases hk : y ∈ ks
      · rw [if_pos hk]; exact decide_eq_true hk
      · rw [if_neg hk]; simp
    · rw [has_put_other (by intro e'; injection e' with _ e'; exact e e'), h.has]
      by_cases hk : x ∈ ks
      · rw [if_pos hk]
      · rw [if_neg hk]; simp [e]
  · rw [size_put (h.own.tidy Try.lawI64C), h.has]
    by_cases hk : x ∈ ks
    · rw [if_pos hk, if_pos (decide_eq_true hk)]; exact h.size
    · rw [if_neg hk, if_neg (by simp [hk])]; simp [h.size]
  · by_cases hk : x ∈ ks
    · rw [if_pos hk]; exact h.nd
    · rw [if_neg hk]; exact List.nodup_cons.2 ⟨hk, h.nd⟩
  · unfold gotF
    by_cases e : y = x
    · subst e
      rw [if_pos rfl]
      by_cases hk : y ∈ ks
      · rw [if_pos hk]; simp [hk]
      · rw [if_neg hk]; simp
    · rw [if_neg e, ← h.pos y]
      by_cases hk : x ∈ ks
      · rw [if_pos hk]
      · rw [if_neg hk]; simp [e]
end

/-- Keys that are 1 to m, each once, are as many as m. -/
theorem keys_len (ks : List Int) (hn : ks.Nodup) (m : Nat) (h : ∀ x, x ∈ ks ↔ (1 ≤ x ∧ x ≤ m)) : ks.length = m := by
  have hp : ks.Perm ((List.range m).map fun i => ((i : Nat) : Int) + 1) := by
    refine (List.perm_ext_iff_of_nodup hn ?_).2 fun x => ?_
    · exact List.pairwise_map.2 (List.nodup_range.imp fun h e => h (by omega))
    · rw [h x, List.mem_map]
      constructor
      · rintro ⟨h1, h2⟩
        exact ⟨x.toNat - 1, List.mem_range.2 (by omega), by omega⟩
      · rintro ⟨i, hi, rfl⟩
        have := List.mem_range.1 hi
        omega
  rw [hp.length_eq]
  simp

end Go.Proofs.Ytfmiamjbhlglbaa

/-
  The contract of 'owners' where there are too many nodes or lists, and at whatever chains.
-/
import Derived.Test.YtiheeehegjfmgaaOw
namespace Go.Proofs.Ytiheeehegjfmgaa
open Go.RowKit Go.Shelf

theorem owners_early (A B D : Option Addr) (n a m b k d : Nat) (next head tail : List Int) (w : World) (hA : Ints w A n next) (hB : Ints w B m head) (hD : Ints w D k tail) (h : 1024 < n ∨ m < 1 ∨ 256 < m ∨ k ≠ m) :
    Calls Try.prog 43 #[.agg #[.slice A n a, .slice B m b, .slice D k d]] w (OwnAns next head tail w) := by
  have HNO : Hid (∀ qs, ¬ Rep next head tail qs) := Lib.hid (fun qs r => by
    have e1 := r.few
    have e2 := r.l1
    have e3 := r.l2
    have e4 := r.lh
    have e5 := r.lt
    have := hA.1
    have := hB.1
    have := hD.1
    omega)
  have K1 := ((Bk.new w 24 #[.slice A n a, .slice B m b, .slice D k d]).alloc (.cells #[.slice none 0 0] 22)).alloc (.cells #[.bool false] 4)
  have a0 := K1.e0
  have a1 := K1.e1
  have a2 := K1.e2
  have hn := Nat.le_trans (Nat.le_mul_of_pos_right n (by omega : 0 < 8)) hA.2.1
  have hm := Nat.le_trans (Nat.le_mul_of_pos_right m (by omega : 0 < 8)) hB.2.1
  have hk := Nat.le_trans (Nat.le_mul_of_pos_right k (by omega : 0 < 8)) hD.2.1
  have BB := Lib.hid ((((Below.refl w.heap.size w).alloc (Nat.le_refl _) (.cells #[.slice A n a, .slice B m b, .slice D k d] 24)).alloc (by simp) (.cells #[.slice none 0 0] 22)).alloc (by simp; omega) (.cells #[.bool false] 4))
  clear hA hB hD K1
  have h0 : 1024 < n ∨ (¬ 1024 < n ∧ m < 1) ∨ (¬ 1024 < n ∧ ¬ m < 1 ∧ 256 < m) ∨ (¬ 1024 < n ∧ ¬ m < 1 ∧ ¬ 256 < m ∧ ((k : Int) != (m : Int)) = true) := by
    by_cases h1 : 1024 < n
    · exact .inl h1
    · by_cases h2 : m < 1
      · exact .inr (.inl ⟨h1, h2⟩)
      · by_cases h3 : 256 < m
        · exact .inr (.inr (.inl ⟨h1, h2, h3⟩))
        · exact .inr (.inr (.inr ⟨h1, h2, h3, by simp; omega⟩))
  clear h
  rcases h0 with h1 | ⟨h1, h2⟩ | ⟨h1, h2, h3⟩ | ⟨h1, h2, h3, h4⟩
  all_goals
    go_enter Try.func43, Try.ntmps43
    go_wp2
    exact bodyPost_ret (v := .tuple #[.slice none 0 0, .bool false]) (by simp [results, Try.results43, go_sem]) rfl (own_no BB.out HNO.out rfl)

theorem owners_any (A B D : Option Addr) (n a m b k d : Nat) (next head tail : List Int) (w : World) (hA : Ints w A n next) (hB : Ints w B m head) (hD : Ints w D k tail) :
    Calls Try.prog 43 #[.agg #[.slice A n a, .slice B m b, .slice D k d]] w (OwnAns next head tail w) := by
  by_cases h : 1024 < n ∨ m < 1 ∨ 256 < m ∨ k ≠ m
  · exact owners_early A B D n a m b k d next head tail w hA hB hD h
  · obtain rfl : k = m := by omega
    exact owners_main A B D n a k b d next head tail w hA hB hD (by omega) (by omega) (by omega)

end Go.Proofs.Ytiheeehegjfmgaa

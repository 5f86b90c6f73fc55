/-
  The contracts of cell.New, of the document's New, and of the law's example 'live'.
-/
import Derived.Test.YtmmilceemnggiaaCWrap
namespace Go.Proofs.Ytmmilceemnggiaa
open Go.RowKit

theorem OwnI.zeros {w : World} {base n : Nat} {g c : Nat} (hn : n * 8 ≤ 140737488351232) (h : w.ownsRow base 2 1 (.slice (some ⟨g, 0, none⟩) n c) n (madeCells (Value.int .i64 0).cells (n * 1)).toList) :
    OwnI 2 w base (some ⟨g, 0, none⟩) c (List.replicate n 0) := by
  refine ⟨by simpa using hn, fun z hz => ?_, ?_⟩
  · rw [List.eq_of_mem_replicate hz]; exact f0
  · have e : (madeCells (Value.int .i64 0).cells (n * 1)).toList = List.replicate n (Value.int .i64 0) := by
      rw [Nat.mul_one]; exact toList_madeCells_one _ _
    rw [e] at h
    simpa [List.map_replicate] using h

theorem new_bad (n : Int) (w : World) (h : n < 0 ∨ 65536 < n) :
    Calls Try.prog 11 #[.int .i64 n] w (NewI2 [] 1 w) := by
  rcases h with h | h
  · have h1 : decide (n < 0) = true := by simpa using h
    go_enter Try.func11, Try.ntmps11
    go_wp2
    go_ret2
    exact ⟨none, 0, rfl, OwnI.nil_ _ _ _, Below.refl _ _⟩
  · have h1 : decide (n < 0) = false := by simp; omega
    have h2 : decide (65536 < n) = true := by simpa using h
    go_enter Try.func11, Try.ntmps11
    go_wp2
    go_ret2
    exact ⟨none, 0, rfl, OwnI.nil_ _ _ _, Below.refl _ _⟩

set_option maxHeartbeats 400000 in
theorem new_ok (n : Nat) (w : World) (h : n ≤ 65536) :
    Calls Try.prog 11 #[.int .i64 n] w (NewI2 (List.replicate n 0) 0 w) := by
  obtain ⟨i0, hi, hz0, hz1, hz2⟩ := info_parts infoI
  have h2 : decide ((65536 : Int) < n) = false := by simp; omega
  have HI := Lib.hid hi
  have HZ := Lib.hid hz0
  have HS := Lib.hid hz1
  have HB := Lib.hid hz2
  clear hi hz0 hz1 hz2
  go_enter Try.func11, Try.ntmps11
  go_wp2_with (at_make; refine wpList_make_full _ rfl _ _ 23 rfl w.heap.size 2 i0 (.int .i64 0) 1 Try.underlying23 HI.out HZ.out HS.out .i64 .i64 _ _ n rfl rfl rfl rfl (by rw [HB.out]; omega) (by unfold maxLen; omega) (Nat.le_refl _) ?_; intro w1 hown hgrow; have HO := Lib.hid hown; have HG := Lib.hid hgrow; clear hown hgrow)
  go_ret2
  have e : (Value.slice (some ⟨w.heap.size, 0, none⟩) n n) = .slice (some ⟨w.heap.size, 0, none⟩) (List.replicate n (0 : Int)).length n := by rw [List.length_replicate]
  refine ⟨_, n, by rw [← e]; rfl, OwnI.zeros (by omega) HO.out, (Below.refl _ _).grown HG.out (Nat.le_refl _) (by simp)⟩

theorem rnew_bad (n : Int) (w : World) (h : n < 0 ∨ 65536 < n) :
    Calls Try.prog 12 #[.int .i64 n] w (NewI2 [] 1 w) := by
  rcases h with h | h
  · have h1 : decide (n < 0) = true := by simpa using h
    go_enter Try.func12, Try.ntmps12
    go_wp2
    go_ret2
    exact ⟨none, 0, rfl, OwnI.nil_ _ _ _, Below.refl _ _⟩
  · have h1 : decide (n < 0) = false := by simp; omega
    have h2 : decide (65536 < n) = true := by simpa using h
    go_enter Try.func12, Try.ntmps12
    go_wp2
    go_ret2
    exact ⟨none, 0, rfl, OwnI.nil_ _ _ _, Below.refl _ _⟩

theorem Ints.one (w : World) (E : TypeId) {x : Int} (hx : Fit x) : Ints (w.alloc (.cells #[.int .i64 x] E)) (some ⟨w.heap.size, 0, none⟩) 1 [x] := by
  refine ⟨rfl, by omega, fun z hz => by rw [List.mem_singleton.1 hz]; exact hx, fun _ => ⟨w.heap.size, 0, rfl, by simp, fun j hj => ?_⟩⟩
  obtain rfl : j = 0 := by omega
  rw [World.cell?_alloc_at _ _ _ _ rfl]
  rfl

/-- The relation of the loop of the document's New: so many zeros lie in a row of the call's own. -/
def NewRel (n : Nat) (w : World) (v t : Value) (wr : World) : Prop :=
  ∃ k A c, k ≤ n ∧ t = .int .i64 (k : Nat) ∧ v = .slice A k c ∧ OwnI 2 wr w.heap.size A c (List.replicate k 0) ∧ Below w.heap.size w wr

set_option maxHeartbeats 400000 in
theorem rnew_ok (n : Nat) (w : World) (h : n ≤ 65536) :
    Calls Try.prog 12 #[.int .i64 n] w (NewI2 (List.replicate n 0) 0 w) := by
  have h2 : decide ((65536 : Int) < n) = false := by simp; omega
  go_enter Try.func12, Try.ntmps12
  go_wp2
  go_loopw [4, 12] (fun v t wr => NewRel n w v t wr) (fun _ t _ => n - (intOf t).toNat)
  case atStart => exact ⟨0, none, 0, Nat.zero_le _, rfl, rfl, OwnI.nil_ _ _ _, Below.refl _ _⟩
  case round =>
    obtain ⟨k, A, c, hk, rfl, rfl, ho, hb⟩ := hrel
    have HO := Lib.hid ho
    have HB := Lib.hid hb
    clear ho hb
    by_cases hlt : k < n
    · go_wp2_with (at_builtin; refine wpList_append_ints _ rfl _ _ 23 rfl 2 Try.underlying23 infoI w.heap.size _ _ (List.replicate k 0) _ (by simp) rfl (HO.out.below ((Below.refl _ _).alloc (Nat.le_refl _) _)) _ _ _ [0] rfl (Ints.one _ _ f0) (by simp; omega) (by have := HB.out.size; simp; omega) ?_; intro A' c' w1 ho hg; rw [← List.replicate_succ', List.length_replicate]; rw [← List.replicate_succ'] at ho; have HO1 := Lib.hid ho; have HG1 := Lib.hid hg; clear ho hg)
      go_roundw
      case rel =>
        refine ⟨k + 1, A', c', by omega, by go_num, rfl, HO1.out, ?_⟩
        exact (HB.out.alloc HB.out.size _).grown HG1.out (by have := HB.out.size; simp; omega) HO.out.block
      case measure => simp [intOf]; omega
    · have : k = n := by omega
      subst this
      go_wp2
      go_ret2
      have e : (Value.slice A k c) = .slice A (List.replicate k (0 : Int)).length c := by rw [List.length_replicate]
      exact ⟨A, c, by rw [← e]; rfl, HO.out, HB.out⟩

end Go.Proofs.Ytmmilceemnggiaa

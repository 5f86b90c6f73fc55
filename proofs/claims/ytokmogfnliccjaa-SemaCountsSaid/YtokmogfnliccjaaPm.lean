/-
  Layer 10, the program: a gate's small methods: may, take, give, empty, full, has, sem.
-/
import Derived.Test.YtokmogfnliccjaaFs
namespace Go.Proofs.Ytokmogfnliccjaa
open Go.RowKit

theorem pmay_any (g : Nat) (z : Int) (w : World) (q0 : w.cell? ⟨g, 0, none⟩ = some (.int .i64 z)) (lg : g < w.heap.size) :
    Calls Try.prog 35 #[.pointer (some ⟨g, 0, none⟩)] w (RetB (.bool (decide (0 ≤ z ∧ z ≤ 1000))) w) := by
  have := lg; clear this
  by_cases h0 : 0 ≤ z
  · have t0 : decide (0 ≤ z) = true := decide_eq_true h0
    have HE := Lib.hid (show decide (0 ≤ z ∧ z ≤ 1000) = decide (z ≤ 1000) by rw [decide_eq_decide]; exact ⟨fun q => q.2, fun q => ⟨h0, q⟩⟩)
    clear h0
    obtain ⟨v, hv⟩ : ∃ v, decide (z ≤ 1000) = v := ⟨_, rfl⟩
    rw [hv] at HE
    go_enter Try.func35, Try.ntmps35
    go_wp2_with fail
    go_ret
    rw [HE.out]
    exact ⟨rfl, Below.refl _ _⟩
  · have t0 : decide (0 ≤ z) = false := decide_eq_false h0
    have HE := Lib.hid (show decide (0 ≤ z ∧ z ≤ 1000) = false from decide_eq_false (fun q => h0 q.1))
    clear h0
    go_enter Try.func35, Try.ntmps35
    go_wp2_with fail
    go_ret
    rw [HE.out]
    exact ⟨rfl, Below.refl _ _⟩

theorem ptake_no (g : Nat) (w : World) (q0 : w.cell? ⟨g, 0, none⟩ = some (.int .i64 0)) (lg : g < w.heap.size) :
    Calls Try.prog 26 #[.pointer (some ⟨g, 0, none⟩)] w (RetB (.bool false) w) := by
  have := lg; clear this
  go_enter Try.func26, Try.ntmps26
  go_wp2_with fail
  go_ret
  exact ⟨rfl, Below.refl _ _⟩
theorem ptake_yes {w : World} {base g : Nat} {z : Int} {A : Option Addr} {n c b m : Nat} {l : List Int} (h : GS w base g z A n c b m l) (h0 : z ≠ 0) (hz : 0 ≤ z ∧ z ≤ 1000) :
    Calls Try.prog 26 #[.pointer (some ⟨g, 0, none⟩)] w (fun e w' => e = .returned (.bool true) ∧ GS w' base g (z - 1) A n c b m l ∧ Below base w w') := by
  have t0 : (z == 0) = false := by simpa using h0
  have hz1 : z - 1 ≤ 9223372036854775807 ∧ -9223372036854775808 ≤ z - 1 := by omega
  have q0 := h.c0
  have f0 := h.k.frozen 0
  have lg := h.lt
  have HN := Lib.hid (h.set0 (z - 1))
  have HB := Lib.hid ((Below.refl base w).setCell (p := ⟨g, 0, none⟩) h.hb (.int .i64 (z - 1)))
  clear h h0 hz
  go_enter Try.func26, Try.ntmps26
  go_wp2_with fail
  go_ret
  exact ⟨rfl, HN.out, HB.out⟩

theorem pgive_no (g : Nat) (w : World) (q0 : w.cell? ⟨g, 0, none⟩ = some (.int .i64 1000)) (lg : g < w.heap.size) :
    Calls Try.prog 32 #[.pointer (some ⟨g, 0, none⟩)] w (RetB (.bool false) w) := by
  have := lg; clear this
  go_enter Try.func32, Try.ntmps32
  go_wp2_with fail
  go_ret
  exact ⟨rfl, Below.refl _ _⟩
theorem pgive_yes {w : World} {base g : Nat} {z : Int} {A : Option Addr} {n c b m : Nat} {l : List Int} (h : GS w base g z A n c b m l) (h0 : z ≠ 1000) (hz : 0 ≤ z ∧ z ≤ 1000) :
    Calls Try.prog 32 #[.pointer (some ⟨g, 0, none⟩)] w (fun e w' => e = .returned (.bool true) ∧ GS w' base g (z + 1) A n c b m l ∧ Below base w w') := by
  have t0 : (z == 1000) = false := by simpa using h0
  have hz1 : z + 1 ≤ 9223372036854775807 ∧ -9223372036854775808 ≤ z + 1 := by omega
  have q0 := h.c0
  have f0 := h.k.frozen 0
  have lg := h.lt
  have HN := Lib.hid (h.set0 (z + 1))
  have HB := Lib.hid ((Below.refl base w).setCell (p := ⟨g, 0, none⟩) h.hb (.int .i64 (z + 1)))
  clear h h0 hz
  go_enter Try.func32, Try.ntmps32
  go_wp2_with fail
  go_ret
  exact ⟨rfl, HN.out, HB.out⟩

theorem pempty_any (g : Nat) (A : Option Addr) (n c : Nat) (w : World) (q1 : w.cell? ⟨g, 1, none⟩ = some (.slice A n c)) (lg : g < w.heap.size) (hn : n ≤ 1000) :
    Calls Try.prog 30 #[.pointer (some ⟨g, 1, none⟩)] w (RetB (.bool (decide (n = 0))) w) := by
  have := lg; clear this
  have := hn; clear this
  by_cases h : n = 0
  · have HE := Lib.hid (show decide (n = 0) = true from decide_eq_true h)
    go_enter Try.func30, Try.ntmps30
    go_wp2_with fail
    go_ret
    rw [HE.out]
    exact ⟨by simp <;> omega, Below.refl _ _⟩
  · have HE := Lib.hid (show decide (n = 0) = false from decide_eq_false h)
    go_enter Try.func30, Try.ntmps30
    go_wp2_with fail
    go_ret
    rw [HE.out]
    exact ⟨by simp <;> omega, Below.refl _ _⟩

theorem pfull_any (g : Nat) (A : Option Addr) (n c : Nat) (w : World) (q1 : w.cell? ⟨g, 1, none⟩ = some (.slice A n c)) (lg : g < w.heap.size) (hn : n ≤ 1000) :
    Calls Try.prog 28 #[.pointer (some ⟨g, 1, none⟩)] w (RetB (.bool (decide (256 ≤ n))) w) := by
  have := lg; clear this
  have := hn; clear this
  by_cases h : 256 ≤ n
  · have HE := Lib.hid (show decide (256 ≤ n) = true from decide_eq_true h)
    go_enter Try.func28, Try.ntmps28
    go_wp2_with fail
    go_ret
    rw [HE.out]
    exact ⟨by simp <;> omega, Below.refl _ _⟩
  · have HE := Lib.hid (show decide (256 ≤ n) = false from decide_eq_false h)
    go_enter Try.func28, Try.ntmps28
    go_wp2_with fail
    go_ret
    rw [HE.out]
    exact ⟨by simp <;> omega, Below.refl _ _⟩

/-- Who is in the set. -/
theorem phas_any (g b m : Nat) (f : Int → Bool) (x : Int) (w : World) (q2 : w.cell? ⟨g, 2, none⟩ = some (.map (some b))) (lg : g < w.heap.size) (hs : FSet w b m f) (fx : Fit x) :
    Calls Try.prog 25 #[.pointer (some ⟨g, 1, none⟩), .int .i64 x] w (RetB (.bool (f x)) w) := by
  have := lg; clear this
  have hgx := hs.get fx
  obtain ⟨v, hv⟩ : ∃ v, f x = v := ⟨_, rfl⟩
  rw [hv] at hgx ⊢
  have HB := Lib.hid ((Below.refl w.heap.size w).alloc (Nat.le_refl _) (.cells #[] 63))
  clear hs hv fx
  go_enter Try.func25, Try.ntmps25
  go_wp2_with fail
  go_ret
  exact ⟨rfl, HB.out⟩

/-- The semaphore that a gate is. -/
theorem psem_any (g : Nat) (z : Int) (A : Option Addr) (n c : Nat) (w : World) (q0 : w.cell? ⟨g, 0, none⟩ = some (.int .i64 z)) (q1 : w.cell? ⟨g, 1, none⟩ = some (.slice A n c)) (lg : g < w.heap.size) :
    Calls Try.prog 27 #[.pointer (some ⟨g, 0, none⟩)] w (RetB (.agg #[.int .i64 z, .slice A n c]) w) := by
  have := lg; clear this
  have k2 := Bk.new w 24 #[.int .i64 0, .slice none 0 0]
  have b2 := (Below.refl w.heap.size w).alloc (Nat.le_refl _) (.cells #[.int .i64 0, .slice none 0 0] 24)
  obtain ⟨r, hr⟩ : ∃ r, w.heap.size = r := ⟨_, rfl⟩
  obtain ⟨V, hV⟩ : ∃ V, w.alloc (.cells #[.int .i64 0, .slice none 0 0] 24) = V := ⟨_, rfl⟩
  have p0 := (b2.cell (p := ⟨g, 0, none⟩) lg).trans q0
  have p1 := (b2.cell (p := ⟨g, 1, none⟩) lg).trans q1
  have lp := Nat.lt_of_lt_of_le lg b2.size
  have hgr : g < r := hr ▸ lg
  have HRW := Lib.hid (show w.heap.size ≤ r by omega)
  rw [hV] at k2 b2 p0 p1 lp
  rw [hr] at k2
  have HV := Lib.hid hV
  have HR := Lib.hid hr
  have r0 := k2.c0
  have r1 := k2.c1
  have f0 := k2.frozen 0
  have f1 := k2.frozen 1
  have lr := k2.lt
  have K2 := Lib.hid ((k2.set_ 0 (.int .i64 z)).set_ 1 (.slice A n c))
  have HB := Lib.hid (below_set2 (g := r) b2 HRW.out (.int .i64 z) (.slice A n c))
  clear k2 b2 q0 q1 lg hV hr
  go_enter Try.func27, Try.ntmps27
  go_upto_region 1 with fail
  rw [HV.out]
  try rw [HR.out]
  clear HV HR
  go_region
  go_wp2
  have s0 := K2.out.c0
  have s1 := K2.out.c1
  exact bodyPost_ret (v := .agg #[.int .i64 z, .slice A n c]) (by simp [results, Try.results27, go_sem, s0, s1]) rfl ⟨rfl, HB.out.drew⟩

end Go.Proofs.Ytokmogfnliccjaa

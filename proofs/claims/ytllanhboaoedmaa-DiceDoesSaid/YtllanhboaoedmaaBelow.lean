/-
  The contracts of dice.Below: what is drawn below a number, and the dice then; and of dice that may not be, and numbers that may not be.
-/
import Derived.Test.YtllanhboaoedmaaDraws
namespace Go.Proofs.Ytllanhboaoedmaa
open Go.RowKit

/-- Three are handed back: a value, dice (their octets in memory of the call's own), an error. -/
def TripD (k : Value) (bs : List Int) (p err : Int) (w : World) (e : Ending) (w' : World) : Prop :=
  ∃ A c, e = .returned (.tuple #[k, .agg #[.slice A bs.length c, .int .i64 p], .int .i64 err]) ∧ OwnO 5 w' w.heap.size A c bs ∧ Below w.heap.size w w'

theorem Bk.grown {w w' : World} {g : Nat} {t : TypeId} {cs : Array Value} {row : Option Nat} (h : Bk w g t cs) (hb : w.grownBy w' row) (hg : some g ≠ row) : Bk w' g t cs := (hb.block g h.lt hg).trans h

/-- A struct of dice, and the place of the result, as they lie at the beginning. -/
theorem lies2 (w : World) (x y : Array Value) (t u : TypeId) :
    Bk ((w.alloc (.cells x t)).alloc (.cells y u)) w.heap.size t x ∧ Bk ((w.alloc (.cells x t)).alloc (.cells y u)) (w.heap.size + 1) u y ∧ Below w.heap.size w ((w.alloc (.cells x t)).alloc (.cells y u)) := by
  refine ⟨(Bk.new w t x).alloc _, ?_, ((Below.refl w.heap.size w).alloc (Nat.le_refl _) _).alloc (by simp) _⟩
  have := Bk.new (w.alloc (.cells x t)) u y
  simpa using this

section
variable {w : World} {g : Nat} {t : TypeId} {u v : Value}
theorem Bk.c0 (h : Bk w g t #[u, v]) : w.cell? ⟨g, 0, none⟩ = some u := (h.cell 0).trans rfl
theorem Bk.c1 (h : Bk w g t #[u, v]) : w.cell? ⟨g, 1, none⟩ = some v := (h.cell 1).trans rfl
end

set_option maxHeartbeats 1000000 in
theorem below_ok (A : Option Addr) (n c p : Nat) (bs : List Int) (m : Int) (w : World) (ho : Octs w A n bs) (hp : p ≤ n) (hm : 1 ≤ m) (hM : m ≤ 65536) :
    Calls Try.prog 10 #[.agg #[.slice A n c, .int .i64 (p : Int)], .int .i64 m] w (TripD (.int .i64 (drawAt bs p % m)) bs (min (p + 2) n : Nat) 0 w) := by
  obtain ⟨k2, k5, b0⟩ := lies2 w #[.slice A n c, .int .i64 (p : Int)] #[.slice none 0 0, .int .i64 0] 24 24
  have HO := Lib.hid ho
  have hp' : (p : Int) ≤ (n : Int) := by omega
  have hp0 : (0 : Int) ≤ (p : Int) := by omega
  clear ho
  go_enter Try.func10, Try.ntmps10
  go_wp2_with fail
  refine (check_ok A n c p _ hp0 hp').mono ?_
  rintro e w1 ⟨rfl, hb1⟩
  have k21 := k2.below hb1 k2.lt
  have k51 := k5.below hb1 k5.lt
  have b1 := below3 b0 hb1
  have q0 := k21.c0
  have q1 := k21.c1
  clear hb1 k2 k5 b0
  have HZ := Lib.hid k51.lt
  have K5 := Lib.hid k51
  have B1 := Lib.hid b1
  clear k21 k51 b1
  go_wp2_with fail
  refine (draws_any A n c p bs _ (HO.out.below B1.out) hp).mono ?_
  rintro e w2 ⟨g, h, rfl, hs, hk, hg, hh, hb2⟩
  have K5 := Lib.hid (K5.out.below hb2 K5.out.lt)
  have lt5 : w.heap.size + 1 < g := by have := B1.out.size; have := HZ.out; omega
  have B2 := Lib.hid (below3 B1.out hb2)
  have H2 := Lib.hid hb2
  clear hb2 q0 q1
  go_wp2_with fail
  refine (draw_any g h A n c p bs m _ hs hk (by omega)).mono ?_
  rintro e w3 ⟨rfl, hs3, hg3⟩
  have K5 := Lib.hid (K5.out.grown hg3 (by simp; omega))
  have B3 := Lib.hid (B2.out.grown hg3 B2.out.size (by intro k hk; injection hk; omega))
  have HZ3 := Lib.hid K5.out.lt
  clear hg3 hs hk
  go_wp2_with fail
  refine (then_any g A n c _ bs _ hs3).mono ?_
  rintro e w4 ⟨A', c', rfl, hown, hb4⟩
  have k5 := K5.out.below hb4 K5.out.lt
  have c0 := k5.c0
  have c1 := k5.c1
  have f0 := k5.frozen 0
  have f1 := k5.frozen 1
  have HB := Lib.hid (((below3 B3.out hb4).setCell (p := ⟨w.heap.size + 1, 0, none⟩) (by simp) (.slice A' bs.length c')).setCell (p := ⟨w.heap.size + 1, 1, none⟩) (by simp) (.int .i64 (min (p + 2) n : Nat)))
  have HN := Lib.hid (((hown.far (p := ⟨w.heap.size + 1, 0, none⟩) HZ3.out (.slice A' bs.length c')).far (p := ⟨w.heap.size + 1, 1, none⟩) HZ3.out (.int .i64 (min (p + 2) n : Nat))).base B3.out.size)
  clear hs3 hb4 hown k5
  go_wp2
  exact bodyPost_ret (v := .tuple #[.int .i64 (drawAt bs p % m), .agg #[.slice A' bs.length c', .int .i64 (min (p + 2) n : Nat)], .int .i64 0]) (by simp [results, Try.results10, go_sem, *]) rfl ⟨A', c', rfl, HN.out, HB.out⟩

/-- Nothing is handed back but an error. -/
theorem trip_none {k : Value} {err : Int} {w w' : World} (hb : Below w.heap.size w w') : TripD k [] 0 err w (.returned (.tuple #[k, .agg #[.slice none 0 0, .int .i64 0], .int .i64 err])) w' :=
  ⟨none, 0, rfl, OwnO.nil_ _ _ _, hb⟩

set_option maxHeartbeats 1000000 in
theorem below_no (A : Option Addr) (n c : Nat) (p m : Int) (w : World) (hn : n ≤ 140737488351232) (h : ¬ (0 ≤ p ∧ p ≤ n ∧ 1 ≤ m ∧ m ≤ 65536)) :
    Calls Try.prog 10 #[.agg #[.slice A n c, .int .i64 p], .int .i64 m] w (TripD (.int .i64 0) [] 0 1 w) := by
  obtain ⟨k2, k5, b0⟩ := lies2 w #[.slice A n c, .int .i64 p] #[.slice none 0 0, .int .i64 0] 24 24
  by_cases hp : 0 ≤ p ∧ p ≤ n
  · by_cases hm : m < 1
    all_goals
      go_enter Try.func10, Try.ntmps10
      go_wp2_with fail
      refine (check_ok A n c p _ hp.1 hp.2).mono ?_
      rintro e w1 ⟨rfl, hb1⟩
      have k51 := k5.below hb1 k5.lt
      have b1 := Lib.hid (below3 b0 hb1)
      have q0 := k51.c0
      have q1 := k51.c1
      have f0 := k51.frozen 0
      have f1 := k51.frozen 1
      have hM : m < 1 ∨ 65536 < m := by omega
      clear hb1 k2 k5 b0 k51
      have HB := Lib.hid ((b1.out.setCell (p := ⟨w.heap.size + 1, 0, none⟩) (by simp) (.slice none 0 0)).setCell (p := ⟨w.heap.size + 1, 1, none⟩) (by simp) (.int .i64 0))
      rcases hM with hM | hM
      all_goals
        first
        | (exfalso; omega)
        | (go_wp2
           exact bodyPost_ret (v := .tuple #[.int .i64 0, .agg #[.slice none 0 0, .int .i64 0], .int .i64 1]) (by simp [results, Try.results10, go_sem, *]) rfl (trip_none HB.out))
  · go_enter Try.func10, Try.ntmps10
    go_wp2_with fail
    refine (check_no A n c p _ (by omega) hn).mono ?_
    rintro e w1 ⟨rfl, hb1⟩
    have k51 := k5.below hb1 k5.lt
    have b1 := Lib.hid (below3 b0 hb1)
    have q0 := k51.c0
    have q1 := k51.c1
    have f0 := k51.frozen 0
    have f1 := k51.frozen 1
    clear hb1 k2 k5 b0 k51
    have HB := Lib.hid ((b1.out.setCell (p := ⟨w.heap.size + 1, 0, none⟩) (by simp) (.slice none 0 0)).setCell (p := ⟨w.heap.size + 1, 1, none⟩) (by simp) (.int .i64 0))
    go_wp2
    exact bodyPost_ret (v := .tuple #[.int .i64 0, .agg #[.slice none 0 0, .int .i64 0], .int .i64 1]) (by simp [results, Try.results10, go_sem, *]) rfl (trip_none HB.out)

end Go.Proofs.Ytllanhboaoedmaa

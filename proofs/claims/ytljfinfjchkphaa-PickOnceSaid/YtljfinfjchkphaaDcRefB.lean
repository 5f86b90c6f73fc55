/-
  The document's answer of layer 3: the contracts of Below and Order.
-/
import Derived.Test.YtljfinfjchkphaaDcRefA
import Derived.RegionTactic
import Derived.BigRegion
namespace Go.Proofs.Ytljfinfjchkphaa
open Go.RowKit

theorem OwnO.drew {E : TypeId} {w : World} {base : Nat} {A : Option Addr} {c : Nat} {zs : List Int} (h : OwnO E w base A c zs) : OwnO E w.drew base A c zs := h

set_option maxHeartbeats 1000000 in
theorem rbelow_ok (A : Option Addr) (n c p : Nat) (bs : List Int) (m : Int) (w : World) (ho : Octs w A n bs) (hN : n ≤ 1000) (hp : p ≤ n) (hm : 1 ≤ m) (hM : m ≤ 65536) :
    Calls Try.prog 37 #[.agg #[.slice A n c, .int .i64 (p : Int)], .int .i64 m] w (TripD (.int .i64 (drawAt bs p % m)) bs (min (p + 2) n : Nat) 0 w) := by
  obtain ⟨k2, k5, b0⟩ := lies2 w #[.slice A n c, .int .i64 (p : Int)] #[.slice none 0 0, .int .i64 0] 24 24
  have HO := Lib.hid ho
  have hp' : (p : Int) ≤ (n : Int) := by omega
  have hp0 : (0 : Int) ≤ (p : Int) := by omega
  have hd := draw_bd ho.2.2.1 p
  obtain ⟨d0, d1⟩ := hd
  clear ho
  go_enter Try.func37, Try.ntmps37
  go_wp2_with fail
  refine (rcheck_ok A n c p _ hp0 hp').mono ?_
  rintro e w1 ⟨rfl, hb1⟩
  have k21 := k2.below hb1 k2.lt
  have k51 := k5.below hb1 k5.lt
  have b1 := below3 b0 hb1
  have q0 := k21.c0
  have q1 := k21.c1
  clear hb1 k2 k5 b0
  have K5 := Lib.hid k51
  have B1 := Lib.hid b1
  clear k21 k51 b1
  go_wp2_with fail
  refine (rdraw_any A n c p bs _ (HO.out.below B1.out) hp hN).mono ?_
  rintro e w2 ⟨A2, c2, rfl, hown, hb2⟩
  have K6 := Lib.hid ((K5.out.below hb2 K5.out.lt).alloc (.cells #[.slice A2 bs.length c2, .int .i64 (min (p + 2) n : Nat)] 24))
  have B2 := Lib.hid (below3 B1.out hb2)
  have ha := (Below.refl w2.heap.size w2).alloc (Nat.le_refl _) (.cells #[.slice A2 bs.length c2, .int .i64 (min (p + 2) n : Nat)] 24)
  have HW := Lib.hid (hown.below ha)
  have HB := Lib.hid (((B2.out.trans (ha.mono B2.out.size)).setCell (p := ⟨w.heap.size + 1, 0, none⟩) (by simp) (.slice A2 bs.length c2)).setCell (p := ⟨w.heap.size + 1, 1, none⟩) (by simp) (.int .i64 (min (p + 2) n : Nat))).drew
  have HN := Lib.hid (((HW.out.far (p := ⟨w.heap.size + 1, 0, none⟩) K5.out.lt (.slice A2 bs.length c2)).far (p := ⟨w.heap.size + 1, 1, none⟩) K5.out.lt (.int .i64 (min (p + 2) n : Nat))).base B1.out.size).drew
  have r0 := K6.out.c0
  have r1 := K6.out.c1
  have f0 := K6.out.frozen 0
  have f1 := K6.out.frozen 1
  clear hown hb2 ha q0 q1
  have m0 : (m == 0) = false := by simp; omega
  go_wp2_with fail
  go_region
  go_wp2
  exact bodyPost_ret (v := .tuple #[.int .i64 (drawAt bs p % m), .agg #[.slice A2 bs.length c2, .int .i64 (min (p + 2) n : Nat)], .int .i64 0]) (by simp [results, Try.results37, go_sem, *]) rfl ⟨A2, c2, rfl, HN.out, HB.out⟩

set_option maxHeartbeats 1000000 in
theorem rbelow_no (A : Option Addr) (n c : Nat) (p m : Int) (w : World) (hn : n ≤ 140737488351232) (h : ¬ (0 ≤ p ∧ p ≤ n ∧ 1 ≤ m ∧ m ≤ 65536)) :
    Calls Try.prog 37 #[.agg #[.slice A n c, .int .i64 p], .int .i64 m] w (TripD (.int .i64 0) [] 0 1 w) := by
  obtain ⟨k2, k5, b0⟩ := lies2 w #[.slice A n c, .int .i64 p] #[.slice none 0 0, .int .i64 0] 24 24
  by_cases hp : 0 ≤ p ∧ p ≤ n
  · go_enter Try.func37, Try.ntmps37
    go_wp2_with fail
    refine (rcheck_ok A n c p _ hp.1 hp.2).mono ?_
    rintro e w1 ⟨rfl, hb1⟩
    have k51 := k5.below hb1 k5.lt
    have b1 := Lib.hid (below3 b0 hb1)
    have q0 := k51.c0
    have q1 := k51.c1
    have f0 := k51.frozen 0
    have f1 := k51.frozen 1
    have hM : m < 1 ∨ 65536 < m := by omega
    clear hb1 k2 k5 b0 k51
    have HB := Lib.hid ((b1.out.setCell (p := ⟨w.heap.size + 1, 0, none⟩) (by simp) (.slice none 0 0)).setCell (p := ⟨w.heap.size + 1, 1, none⟩) (by simp) (.int .i64 0))
    rcases hM with hM | hM
    all_goals
      go_wp2
      exact bodyPost_ret (v := .tuple #[.int .i64 0, .agg #[.slice none 0 0, .int .i64 0], .int .i64 1]) (by simp [results, Try.results37, go_sem, *]) rfl (trip_none HB.out)
  · go_enter Try.func37, Try.ntmps37
    go_wp2_with fail
    refine (rcheck_no A n c p _ (by omega) hn).mono ?_
    rintro e w1 ⟨rfl, hb1⟩
    have k51 := k5.below hb1 k5.lt
    have b1 := Lib.hid (below3 b0 hb1)
    have q0 := k51.c0
    have q1 := k51.c1
    have f0 := k51.frozen 0
    have f1 := k51.frozen 1
    clear hb1 k2 k5 b0 k51
    have HB := Lib.hid ((b1.out.setCell (p := ⟨w.heap.size + 1, 0, none⟩) (by simp) (.slice none 0 0)).setCell (p := ⟨w.heap.size + 1, 1, none⟩) (by simp) (.int .i64 0))
    go_wp2
    exact bodyPost_ret (v := .tuple #[.int .i64 0, .agg #[.slice none 0 0, .int .i64 0], .int .i64 1]) (by simp [results, Try.results37, go_sem, *]) rfl (trip_none HB.out)

set_option maxHeartbeats 1000000 in
theorem rorder_no (A : Option Addr) (n c : Nat) (p m : Int) (w : World) (hn : n ≤ 140737488351232) (h : ¬ (0 ≤ p ∧ p ≤ n ∧ 0 ≤ m ∧ m ≤ 256)) :
    Calls Try.prog 25 #[.agg #[.slice A n c, .int .i64 p], .int .i64 m] w (OrdD [] [] 0 1 w) := by
  obtain ⟨k2, k5, b0⟩ := lies2 w #[.slice A n c, .int .i64 p] #[.slice none 0 0, .int .i64 0] 24 24
  by_cases hp : 0 ≤ p ∧ p ≤ n
  · go_enter Try.func25, Try.ntmps25
    go_wp2_with fail
    refine (rcheck_ok A n c p _ hp.1 hp.2).mono ?_
    rintro e w1 ⟨rfl, hb1⟩
    have k51 := k5.below hb1 k5.lt
    have b1 := Lib.hid (below3 b0 hb1)
    have q0 := k51.c0
    have q1 := k51.c1
    have f0 := k51.frozen 0
    have f1 := k51.frozen 1
    have hM : m < 0 ∨ 256 < m := by omega
    clear hb1 k2 k5 b0 k51
    have HB := Lib.hid ((b1.out.setCell (p := ⟨w.heap.size + 1, 0, none⟩) (by simp) (.slice none 0 0)).setCell (p := ⟨w.heap.size + 1, 1, none⟩) (by simp) (.int .i64 0))
    rcases hM with hM | hM
    all_goals
      go_wp2
      exact bodyPost_ret (v := .tuple #[.slice none 0 0, .agg #[.slice none 0 0, .int .i64 0], .int .i64 1]) (by simp [results, Try.results25, go_sem, *]) rfl (ord_none HB.out)
  · go_enter Try.func25, Try.ntmps25
    go_wp2_with fail
    refine (rcheck_no A n c p _ (by omega) hn).mono ?_
    rintro e w1 ⟨rfl, hb1⟩
    have k51 := k5.below hb1 k5.lt
    have b1 := Lib.hid (below3 b0 hb1)
    have q0 := k51.c0
    have q1 := k51.c1
    have f0 := k51.frozen 0
    have f1 := k51.frozen 1
    clear hb1 k2 k5 b0 k51
    have HB := Lib.hid ((b1.out.setCell (p := ⟨w.heap.size + 1, 0, none⟩) (by simp) (.slice none 0 0)).setCell (p := ⟨w.heap.size + 1, 1, none⟩) (by simp) (.int .i64 0))
    go_wp2
    exact bodyPost_ret (v := .tuple #[.slice none 0 0, .agg #[.slice none 0 0, .int .i64 0], .int .i64 1]) (by simp [results, Try.results25, go_sem, *]) rfl (ord_none HB.out)

end Go.Proofs.Ytljfinfjchkphaa

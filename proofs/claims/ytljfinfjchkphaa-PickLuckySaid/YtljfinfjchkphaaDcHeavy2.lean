/-
  The contracts of dice.Heavy: a place by weights is drawn, and the dice then; and why not.
-/
import Derived.Test.YtljfinfjchkphaaDcHeavy
namespace Go.Proofs.Ytljfinfjchkphaa
open Go.RowKit

set_option maxHeartbeats 1000000 in
theorem heavy_dice (A : Option Addr) (n c : Nat) (p : Int) (v : Value) (w : World) (hn : n ≤ 140737488351232) (h : p < 0 ∨ (n : Int) < p) :
    Calls Try.prog 31 #[.agg #[.slice A n c, .int .i64 p], v] w (TripD (.int .i64 0) [] 0 1 w) := by
  obtain ⟨k2, k5, b0⟩ := lies2 w #[.slice A n c, .int .i64 p] #[.slice none 0 0, .int .i64 0] 24 24
  go_enter Try.func31, Try.ntmps31
  go_wp2_with fail
  refine (check_no A n c p _ h hn).mono ?_
  rintro e w1 ⟨rfl, hb1⟩
  have k51 := k5.below hb1 k5.lt
  have b1 := Lib.hid (below3 b0 hb1)
  have q0 := k51.c0
  have q1 := k51.c1
  have f0 := k51.frozen 0
  have f1 := k51.frozen 1
  clear hb1 k2 k5 b0 k51
  have HB := Lib.hid ((b1.out.setCell (p := ⟨w.heap.size + 1, 0, none⟩) (by simp) (.slice none 0 0)).setCell (p := ⟨w.heap.size + 1, 1, none⟩) (by simp) (.int .i64 0))
  go_wp2
  exact bodyPost_ret (v := .tuple #[.int .i64 0, .agg #[.slice none 0 0, .int .i64 0], .int .i64 1]) (by simp [results, Try.results31, go_sem, *]) rfl (trip_none HB.out)

theorem together_no (A : Option Addr) (n c : Nat) (ws : List Int) (E : Int) (w : World) (hw : Ints w A n ws) (hE : weightE ws = E) (h0 : E ≠ 0) :
    Calls Try.prog 41 #[.slice A n c] w fun e w' => e = .returned (.tuple #[.int .i64 0, .int .i64 E]) ∧ w = w' := by
  refine (together_any A n c ws w hw).mono fun e w' ⟨h1, h2⟩ => ⟨?_, h2⟩
  rw [h1, hE, if_neg h0]

theorem together_ok (A : Option Addr) (n c : Nat) (ws : List Int) (w : World) (hw : Ints w A n ws) (hE : weightE ws = 0) :
    Calls Try.prog 41 #[.slice A n c] w fun e w' => e = .returned (.tuple #[.int .i64 ws.sum, .int .i64 0]) ∧ w = w' := by
  refine (together_any A n c ws w hw).mono fun e w' ⟨h1, h2⟩ => ⟨?_, h2⟩
  rw [h1, hE, if_pos rfl]

set_option maxHeartbeats 1000000 in
theorem heavy_no (A B : Option Addr) (n c m d : Nat) (p : Int) (ws : List Int) (E : Int) (w : World) (h0 : 0 ≤ p) (h1 : p ≤ n) (hw : Ints w B m ws) (hE : weightE ws = E) (hE0 : E ≠ 0) :
    Calls Try.prog 31 #[.agg #[.slice A n c, .int .i64 p], .slice B m d] w (TripD (.int .i64 0) [] 0 E w) := by
  obtain ⟨k2, k5, b0⟩ := lies2 w #[.slice A n c, .int .i64 p] #[.slice none 0 0, .int .i64 0] 24 24
  have HW := Lib.hid hw
  have HE := Lib.hid hE
  have e1 : (E != 0) = true := by simpa using hE0
  clear hw hE
  go_enter Try.func31, Try.ntmps31
  go_wp2_with fail
  refine (check_ok A n c p _ h0 h1).mono ?_
  rintro e w1 ⟨rfl, hb1⟩
  have k51 := k5.below hb1 k5.lt
  have b1 := Lib.hid (below3 b0 hb1)
  have q0 := k51.c0
  have q1 := k51.c1
  have f0 := k51.frozen 0
  have f1 := k51.frozen 1
  clear hb1 k2 k5 b0 k51
  have HB := Lib.hid ((b1.out.setCell (p := ⟨w.heap.size + 1, 0, none⟩) (by simp) (.slice none 0 0)).setCell (p := ⟨w.heap.size + 1, 1, none⟩) (by simp) (.int .i64 0))
  go_wp2_with fail
  refine (together_no B m d ws E _ (HW.out.below b1.out) HE.out hE0).mono ?_
  rintro e w2 ⟨rfl, rfl⟩
  go_wp2
  exact bodyPost_ret (v := .tuple #[.int .i64 0, .agg #[.slice none 0 0, .int .i64 0], .int .i64 E]) (by simp [results, Try.results31, go_sem, *]) rfl (trip_none HB.out)

set_option maxHeartbeats 1000000 in
theorem heavy_ok (A B : Option Addr) (n c p m d : Nat) (bs ws : List Int) (w : World) (ho : Octs w A n bs) (hp : p ≤ n) (hw : Ints w B m ws) (hE : weightE ws = 0) :
    Calls Try.prog 31 #[.agg #[.slice A n c, .int .i64 (p : Int)], .slice B m d] w (TripD (.int .i64 (pick ws (drawAt bs p % ws.sum))) bs (min (p + 2) n : Nat) 0 w) := by
  obtain ⟨k2, k5, b0⟩ := lies2 w #[.slice A n c, .int .i64 (p : Int)] #[.slice none 0 0, .int .i64 0] 24 24
  have HO := Lib.hid ho
  have HW := Lib.hid hw
  have hp' : (p : Int) ≤ (n : Int) := by omega
  have hp0 : (0 : Int) ≤ (p : Int) := by omega
  obtain ⟨g1, g2, g3, g4⟩ := weightE_zero hE
  have HE := Lib.hid hE
  have HR := Lib.hid g2
  have hm : m ≤ 256 := by rw [← hw.1]; exact g1
  clear ho hw hE g1 g2
  go_enter Try.func31, Try.ntmps31
  go_wp2_with fail
  refine (check_ok A n c p _ hp0 hp').mono ?_
  rintro e w1 ⟨rfl, hb1⟩
  have k21 := k2.below hb1 k2.lt
  have k51 := k5.below hb1 k5.lt
  have b1 := below3 b0 hb1
  have q0 := k21.c0
  have q1 := k21.c1
  clear hb1 k2 k5 b0
  have HZ1 := Lib.hid k51.lt
  have K5 := Lib.hid k51
  have B1 := Lib.hid b1
  clear k21 k51 b1
  go_wp2_with fail
  refine (together_ok B m d ws _ (HW.out.below B1.out) HE.out).mono ?_
  rintro e w1' ⟨rfl, rfl⟩
  go_wp2_with fail
  refine (draws_any A n c p bs _ (HO.out.below B1.out) hp).mono ?_
  rintro e w2 ⟨g, h, rfl, hs, hk, hg, hh, hb2⟩
  have K5 := Lib.hid (K5.out.below hb2 K5.out.lt)
  have lt5 : w.heap.size + 1 < g := by have := B1.out.size; have := HZ1.out; omega
  have B2 := Lib.hid (below3 B1.out hb2)
  clear hb2 q0 q1
  obtain ⟨x, hx⟩ : ∃ x, x = drawAt bs p % ws.sum := ⟨_, rfl⟩
  have x0 : 0 ≤ x := by rw [hx]; exact Int.emod_nonneg _ (by omega)
  have x1 : x < ws.sum := by rw [hx]; exact Int.emod_lt_of_pos _ g4
  have HX := Lib.hid hx
  clear hx
  go_wp2_with fail
  refine (draw_as g h A n c p bs ws.sum x _ hs hk g4 HX.out.symm).mono ?_
  rintro e w3 ⟨rfl, hs3, hg3⟩
  have K5 := Lib.hid (K5.out.grown hg3 (by simp; omega))
  have B3 := Lib.hid (B2.out.grown hg3 B2.out.size (by intro k hk; injection hk; omega))
  have D3 := Lib.hid hs3
  clear hg3 hs hk hs3
  obtain ⟨la, lb, lw⟩ := lies2 w3 #[.int .i64 x] #[.int .i64 0] 3 3
  have BW := Lib.hid (below3 B3.out lw)
  have KW := Lib.hid (K5.out.below lw K5.out.lt)
  have DW := Lib.hid (D3.out.1.below lw D3.out.1.lt)
  have lg := D3.out.1.lt
  have l5 := K5.out.lt
  clear lw D3
  go_wp2_with fail
  refine (index_any B m d w3.heap.size (w3.heap.size + 1) ws x w _ HW.out BW.out (by have := B3.out.size; omega) (by omega) hm HR.out la lb x0 x1).mono ?_
  rintro e w4 ⟨rfl, hg4⟩
  have K6 := Lib.hid (KW.out.grown hg4 (by simp; omega))
  have B4 := Lib.hid (BW.out.grown hg4 BW.out.size (by intro k hk; injection hk with hk; have := B3.out.size; omega))
  have D4 : DS w4 g A n c (min (p + 2) n) bs := ⟨DW.out.grown hg4 (by simp; omega), HO.out.below B4.out, by omega⟩
  clear la lb hg4
  go_wp2_with fail
  refine (then_any g A n c _ bs _ D4).mono ?_
  rintro e w5 ⟨A', c', rfl, hown, hb5⟩
  have k5 := K6.out.below hb5 K6.out.lt
  have c0 := k5.c0
  have c1 := k5.c1
  have f0 := k5.frozen 0
  have f1 := k5.frozen 1
  have HB := Lib.hid (((below3 B4.out hb5).setCell (p := ⟨w.heap.size + 1, 0, none⟩) (by simp) (.slice A' bs.length c')).setCell (p := ⟨w.heap.size + 1, 1, none⟩) (by simp) (.int .i64 (min (p + 2) n : Nat)))
  have HN := Lib.hid (((hown.far (p := ⟨w.heap.size + 1, 0, none⟩) K6.out.lt (.slice A' bs.length c')).far (p := ⟨w.heap.size + 1, 1, none⟩) K6.out.lt (.int .i64 (min (p + 2) n : Nat))).base B4.out.size)
  clear D4 hb5 hown k5
  go_wp2
  exact bodyPost_ret (v := .tuple #[.int .i64 (pick ws x), .agg #[.slice A' bs.length c', .int .i64 (min (p + 2) n : Nat)], .int .i64 0]) (by simp [results, Try.results31, go_sem, *]) rfl ⟨A', c', by rw [HX.out], HN.out, HB.out⟩

end Go.Proofs.Ytljfinfjchkphaa

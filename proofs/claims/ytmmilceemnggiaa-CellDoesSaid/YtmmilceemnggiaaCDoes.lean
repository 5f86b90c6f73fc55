/-
  The walk of the law CellDoes: for every input it comes to true; nothing that was there has changed.
-/
import Derived.Test.YtmmilceemnggiaaCBack
namespace Go.Proofs.Ytmmilceemnggiaa
open Go.RowKit

/-- What New comes to. -/
def newS (n : Int) : List Int × Int := if n < 0 ∨ 65536 < n then ([], 1) else (List.replicate n.toNat 0, 0)

theorem new_any (n : Int) (w : World) : Calls Try.prog 11 #[.int .i64 n] w (NewI2 (newS n).1 (newS n).2 w) := by
  unfold newS
  by_cases h : n < 0 ∨ 65536 < n
  · rw [if_pos h]; exact new_bad n w h
  · rw [if_neg h]
    obtain ⟨k, rfl⟩ : ∃ k : Nat, n = k := ⟨n.toNat, by omega⟩
    exact new_ok k w (by omega)

theorem rnew_any (n : Int) (w : World) : Calls Try.prog 12 #[.int .i64 n] w (NewI2 (newS n).1 (newS n).2 w) := by
  unfold newS
  by_cases h : n < 0 ∨ 65536 < n
  · rw [if_pos h]; exact rnew_bad n w h
  · rw [if_neg h]
    obtain ⟨k, rfl⟩ : ∃ k : Nat, n = k := ⟨n.toNat, by omega⟩
    exact rnew_ok k w (by omega)

/-- What Check comes to. -/
def chk (n : Nat) : Int := if 65536 < n then 1 else 0

def ChkAns (n : Nat) (w : World) (e : Ending) (w' : World) : Prop := e = .returned (.int .i64 (chk n)) ∧ Below w.heap.size w w'

theorem check_any (A : Option Addr) (n c : Nat) (w : World) (hm : n ≤ 9223372036854775807) : Calls Try.prog 14 #[.slice A n c] w (ChkAns n w) := by
  by_cases h : 65536 < n
  · exact (check_bad A n c w h hm).mono fun e w' ⟨he, hw⟩ => ⟨by rw [he, chk, if_pos h], hw ▸ Below.refl _ _⟩
  · exact (check_ok A n c w (by omega)).mono fun e w' ⟨he, hw⟩ => ⟨by rw [he, chk, if_neg h], hw ▸ Below.refl _ _⟩

theorem rcheck_any (A : Option Addr) (n c : Nat) (w : World) (hm : n ≤ 9223372036854775807) : Calls Try.prog 15 #[.slice A n c] w (ChkAns n w) := by
  by_cases h : 65536 < n
  · exact (rcheck_bad A n c w h hm).mono fun e w' ⟨he, hw⟩ => ⟨by rw [he, chk, if_pos h], hw ▸ Below.refl _ _⟩
  · exact (rcheck_ok A n c w (by omega)).mono fun e w' ⟨he, hw⟩ => ⟨by rw [he, chk, if_neg h], hw ▸ Below.refl _ _⟩

/-- The block of a struct of four numbers. -/
def Box (w : World) (g : Nat) (k p a b : Int) : Prop :=
  g < w.heap.size ∧ w.cell? ⟨g, 0, none⟩ = some (.int .i64 k) ∧ w.cell? ⟨g, 1, none⟩ = some (.int .i64 p) ∧ w.cell? ⟨g, 2, none⟩ = some (.int .i64 a) ∧ w.cell? ⟨g, 3, none⟩ = some (.int .i64 b)

theorem Box.new_ (w : World) (k p a b : Int) (t : TypeId) : Box (w.alloc (.cells #[.int .i64 k, .int .i64 p, .int .i64 a, .int .i64 b] t)) w.heap.size k p a b := by
  refine ⟨by simp, ?_, ?_, ?_, ?_⟩
  all_goals
    rw [World.cell?_alloc_at _ _ _ _ rfl]
    rfl

theorem Box.below {w w' : World} {g : Nat} {k p a b : Int} (h : Box w g k p a b) (hb : Below w.heap.size w w') : Box w' g k p a b :=
  ⟨Nat.lt_of_lt_of_le h.1 hb.size, (hb.cell (p := ⟨g, 0, none⟩) h.1).trans h.2.1, (hb.cell (p := ⟨g, 1, none⟩) h.1).trans h.2.2.1, (hb.cell (p := ⟨g, 2, none⟩) h.1).trans h.2.2.2.1, (hb.cell (p := ⟨g, 3, none⟩) h.1).trans h.2.2.2.2⟩

/-- The relation of the loop that changes the new cells: they are a row of the call's own yet, of the same length. -/
def IncRel (wk : World) (A : Option Addr) (c L : Nat) (t : Value) (wr : World) : Prop :=
  ∃ j : Nat, j ≤ L ∧ t = .int .i64 j ∧ ∃ xs : List Int, xs.length = L ∧ OwnI 2 wr wk.heap.size A c xs ∧ Below wk.heap.size wk wr

theorem fit_wrap (z : Int) : Fit (wrap64 z) := fit_of_wf (wrap64_wf z)

section
variable (A A' : Option Addr) (n c n' c' : Nat) (zs ys : List Int) (k p a b m : Int) (w : World)

set_option maxHeartbeats 800000 in
set_option maxRecDepth 100000 in
theorem does_s1 (_hm : n ≤ 9223372036854775807) (_ho : n' ≤ 9223372036854775807) (h1 : 300 < n) (h2 : n ≤ 65536) :
    Calls Try.prog 3 #[.slice A n c, .slice A' n' c', .agg #[.int .i64 k, .int .i64 p, .int .i64 a, .int .i64 b], .int .i64 m] w (TrueAns w) := by
  have d1 : decide ((300 : Int) < n) = true := by simp; omega
  have d2 : decide ((n : Int) ≤ 65536) = true := by simp; omega
  go_enter Try.func3, Try.ntmps3
  go_wp2_with fail
  obtain ⟨w0, hw0⟩ : ∃ w0, w0 = w.alloc (.cells #[.int .i64 k, .int .i64 p, .int .i64 a, .int .i64 b] 25) := ⟨_, rfl⟩
  rw [← hw0]
  have BX : Hid (Box w0 w.heap.size k p a b) := by rw [hw0]; exact Box.new_ w k p a b _
  have HB0 : Hid (Below w.heap.size w w0) := by rw [hw0]; exact (Below.refl _ _).alloc (Nat.le_refl _) _
  clear hw0
  go_wp2_with fail
  refine (live_any _).mono ?_
  rintro e w1 ⟨rfl, hb1⟩
  have HB1 := Lib.hid hb1
  clear hb1
  go_wp2
  go_ret
  exact ⟨rfl, below3 HB0.out (HB1.out)⟩

set_option maxHeartbeats 800000 in
set_option maxRecDepth 100000 in
theorem does_s2le (_hm : n ≤ 9223372036854775807) (_ho : n' ≤ 9223372036854775807) (h1 : n ≤ 300) (g1 : 300 < n') :
    Calls Try.prog 3 #[.slice A n c, .slice A' n' c', .agg #[.int .i64 k, .int .i64 p, .int .i64 a, .int .i64 b], .int .i64 m] w (TrueAns w) := by
  have d1 : decide ((300 : Int) < n) = false := by simp; omega
  have d3 : decide ((300 : Int) < n') = true := by simp; omega
  go_enter Try.func3, Try.ntmps3
  go_wp2_with fail
  obtain ⟨w0, hw0⟩ : ∃ w0, w0 = w.alloc (.cells #[.int .i64 k, .int .i64 p, .int .i64 a, .int .i64 b] 25) := ⟨_, rfl⟩
  rw [← hw0]
  have BX : Hid (Box w0 w.heap.size k p a b) := by rw [hw0]; exact Box.new_ w k p a b _
  have HB0 : Hid (Below w.heap.size w w0) := by rw [hw0]; exact (Below.refl _ _).alloc (Nat.le_refl _) _
  clear hw0
  go_wp2_with fail
  refine (live_any _).mono ?_
  rintro e w1 ⟨rfl, hb1⟩
  have HB1 := Lib.hid hb1
  clear hb1
  go_wp2
  go_ret
  exact ⟨rfl, below3 HB0.out (HB1.out)⟩

set_option maxHeartbeats 800000 in
set_option maxRecDepth 100000 in
theorem does_s3le (_hm : n ≤ 9223372036854775807) (_ho : n' ≤ 9223372036854775807) (h1 : n ≤ 300) (g1 : n' ≤ 300) (f1 : 300 < m) (f2 : m ≤ 65536) :
    Calls Try.prog 3 #[.slice A n c, .slice A' n' c', .agg #[.int .i64 k, .int .i64 p, .int .i64 a, .int .i64 b], .int .i64 m] w (TrueAns w) := by
  have d1 : decide ((300 : Int) < n) = false := by simp; omega
  have d3 : decide ((300 : Int) < n') = false := by simp; omega
  have d4 : decide (300 < m) = true := by simp; omega
  have d5 : decide (m ≤ 65536) = true := by simp; omega
  go_enter Try.func3, Try.ntmps3
  go_wp2_with fail
  obtain ⟨w0, hw0⟩ : ∃ w0, w0 = w.alloc (.cells #[.int .i64 k, .int .i64 p, .int .i64 a, .int .i64 b] 25) := ⟨_, rfl⟩
  rw [← hw0]
  have BX : Hid (Box w0 w.heap.size k p a b) := by rw [hw0]; exact Box.new_ w k p a b _
  have HB0 : Hid (Below w.heap.size w w0) := by rw [hw0]; exact (Below.refl _ _).alloc (Nat.le_refl _) _
  clear hw0
  go_wp2_with fail
  refine (live_any _).mono ?_
  rintro e w1 ⟨rfl, hb1⟩
  have HB1 := Lib.hid hb1
  clear hb1
  go_wp2
  go_ret
  exact ⟨rfl, below3 HB0.out (HB1.out)⟩

set_option maxHeartbeats 800000 in
set_option maxRecDepth 100000 in
theorem does_s2gt (_hm : n ≤ 9223372036854775807) (_ho : n' ≤ 9223372036854775807) (h1 : 65536 < n) (g1 : 300 < n') :
    Calls Try.prog 3 #[.slice A n c, .slice A' n' c', .agg #[.int .i64 k, .int .i64 p, .int .i64 a, .int .i64 b], .int .i64 m] w (TrueAns w) := by
  have d1 : decide ((300 : Int) < n) = true := by simp; omega
  have d2 : decide ((n : Int) ≤ 65536) = false := by simp; omega
  have d3 : decide ((300 : Int) < n') = true := by simp; omega
  go_enter Try.func3, Try.ntmps3
  go_wp2_with fail
  obtain ⟨w0, hw0⟩ : ∃ w0, w0 = w.alloc (.cells #[.int .i64 k, .int .i64 p, .int .i64 a, .int .i64 b] 25) := ⟨_, rfl⟩
  rw [← hw0]
  have BX : Hid (Box w0 w.heap.size k p a b) := by rw [hw0]; exact Box.new_ w k p a b _
  have HB0 : Hid (Below w.heap.size w w0) := by rw [hw0]; exact (Below.refl _ _).alloc (Nat.le_refl _) _
  clear hw0
  go_wp2_with fail
  refine (live_any _).mono ?_
  rintro e w1 ⟨rfl, hb1⟩
  have HB1 := Lib.hid hb1
  clear hb1
  go_wp2
  go_ret
  exact ⟨rfl, below3 HB0.out (HB1.out)⟩

set_option maxHeartbeats 800000 in
set_option maxRecDepth 100000 in
theorem does_s3gt (_hm : n ≤ 9223372036854775807) (_ho : n' ≤ 9223372036854775807) (h1 : 65536 < n) (g1 : n' ≤ 300) (f1 : 300 < m) (f2 : m ≤ 65536) :
    Calls Try.prog 3 #[.slice A n c, .slice A' n' c', .agg #[.int .i64 k, .int .i64 p, .int .i64 a, .int .i64 b], .int .i64 m] w (TrueAns w) := by
  have d1 : decide ((300 : Int) < n) = true := by simp; omega
  have d2 : decide ((n : Int) ≤ 65536) = false := by simp; omega
  have d3 : decide ((300 : Int) < n') = false := by simp; omega
  have d4 : decide (300 < m) = true := by simp; omega
  have d5 : decide (m ≤ 65536) = true := by simp; omega
  go_enter Try.func3, Try.ntmps3
  go_wp2_with fail
  obtain ⟨w0, hw0⟩ : ∃ w0, w0 = w.alloc (.cells #[.int .i64 k, .int .i64 p, .int .i64 a, .int .i64 b] 25) := ⟨_, rfl⟩
  rw [← hw0]
  have BX : Hid (Box w0 w.heap.size k p a b) := by rw [hw0]; exact Box.new_ w k p a b _
  have HB0 : Hid (Below w.heap.size w w0) := by rw [hw0]; exact (Below.refl _ _).alloc (Nat.le_refl _) _
  clear hw0
  go_wp2_with fail
  refine (live_any _).mono ?_
  rintro e w1 ⟨rfl, hb1⟩
  have HB1 := Lib.hid hb1
  clear hb1
  go_wp2
  go_ret
  exact ⟨rfl, below3 HB0.out (HB1.out)⟩

set_option maxHeartbeats 800000 in
set_option maxRecDepth 100000 in
theorem does_le_le (hx : Ints w A n zs) (hy : Ints w A' n' ys) (fa : Fit a) (fb : Fit b) (h1 : n ≤ 300) (g1 : n' ≤ 300) (f1 : m ≤ 300) :
    Calls Try.prog 3 #[.slice A n c, .slice A' n' c', .agg #[.int .i64 k, .int .i64 p, .int .i64 a, .int .i64 b], .int .i64 m] w (TrueAns w) := by
  have bx := hx.2.1
  have hm : n ≤ 9223372036854775807 := by omega
  have d1 : decide ((300 : Int) < n) = false := by simp; omega
  have d3 : decide ((300 : Int) < n') = false := by simp; omega
  have d4 : decide (300 < m) = false := by simp; omega
  generalize e : doo zs k p a b = r
  obtain ⟨cs, x, y⟩ := r
  generalize en : newS m = rn
  obtain ⟨ns, yn⟩ := rn
  have E := Lib.hid e
  have N := Lib.hid en
  have HX1 := Lib.hid hx
  have HY1 := Lib.hid hy
  have FA := Lib.hid fa
  have FB := Lib.hid fb
  have HM := Lib.hid hm
  clear e en hx hy fa fb hm
  go_enter Try.func3, Try.ntmps3
  go_wp2_with fail
  obtain ⟨w0, hw0⟩ : ∃ w0, w0 = w.alloc (.cells #[.int .i64 k, .int .i64 p, .int .i64 a, .int .i64 b] 25) := ⟨_, rfl⟩
  rw [← hw0]
  have BX : Hid (Box w0 w.heap.size k p a b) := by rw [hw0]; exact Box.new_ w k p a b _
  have HB0 : Hid (Below w.heap.size w w0) := by rw [hw0]; exact (Below.refl _ _).alloc (Nat.le_refl _) _
  clear hw0
  have HX := Lib.hid (HX1.out.below HB0.out)
  have HY := Lib.hid (HY1.out.below HB0.out)
  go_wp2_with fail
  refine (live_any _).mono ?_
  rintro e w1 ⟨rfl, hb1⟩
  have HB1 := Lib.hid hb1
  clear hb1
  go_wp2_with (at_builtin; refine wpList_append_ints _ rfl _ _ 23 rfl 2 Try.underlying23 infoI w1.heap.size _ _ [] 0 rfl rfl (OwnI.nil_ _ w1 _) _ _ _ zs rfl ((HX.out).below HB1.out) (by simpa using bx) (by simp) ?_; intro A2 c2 w2 ho2 hg2; rw [List.nil_append] at ho2 ⊢; have HO2 := Lib.hid ho2; have HB2 := Lib.hid ((Below.refl w1.heap.size w1).grown hg2 (Nat.le_refl _) (by simp [Value.ownBlock])); clear ho2 hg2; obtain ⟨bg, b0, b1, b2, b3⟩ := ((BX.out).below HB1.out).below HB2.out; clear bg)
  go_wp2_with fail
  refine (do_any _ _ _ zs _ _ _ _ _ (((HX.out).below HB1.out).below HB2.out) FA.out FB.out).mono ?_
  rw [E.out]
  rintro e w3 ⟨A3, c3, rfl, ho3, hb3⟩
  have HB3 := Lib.hid hb3
  have HO3 := Lib.hid ho3
  clear hb3 ho3
  simp only []
  clear b0 b1 b2 b3
  obtain ⟨bg, b0, b1, b2, b3⟩ := (((BX.out).below HB1.out).below HB2.out).below HB3.out
  clear bg
  go_wp2_with fail
  refine (rdo_any _ _ _ zs _ _ _ _ _ ((((HX.out).below HB1.out).below HB2.out).below HB3.out) FA.out FB.out).mono ?_
  rw [E.out]
  rintro e w4 ⟨A4, c4, rfl, ho4, hb4⟩
  have HB4 := Lib.hid hb4
  have HO4 := Lib.hid ho4
  clear hb4 ho4
  simp only []
  clear b0 b1 b2 b3
  go_wp2_with fail
  refine (new_any _ _).mono ?_
  rw [N.out]
  rintro e w5 ⟨A5, c5, rfl, ho5, hb5⟩
  have HB5 := Lib.hid hb5
  have HO5 := Lib.hid ho5
  clear hb5 ho5
  simp only []
  go_wp2_with fail
  refine (rnew_any _ _).mono ?_
  rw [N.out]
  rintro e w6 ⟨A6, c6, rfl, ho6, hb6⟩
  have HB6 := Lib.hid hb6
  have HO6 := Lib.hid ho6
  clear hb6 ho6
  simp only []
  go_wp2_with fail
  refine (rsame_b _ _ _ _ _ _ cs cs _ ((((HO3.out).below HB4.out).below HB5.out).below HB6.out).ints (((HO4.out).below HB5.out).below HB6.out).ints).mono ?_
  rw [sameB_self]
  rintro e w7 ⟨rfl, hb7⟩
  have HB7 := Lib.hid hb7
  clear hb7
  simp only []
  go_wp2_with fail
  refine (rsame_b _ _ _ _ _ _ ns ns _ (((HO5.out).below HB6.out).below HB7.out).ints ((HO6.out).below HB7.out).ints).mono ?_
  rw [sameB_self]
  rintro e w8 ⟨rfl, hb8⟩
  have HB8 := Lib.hid hb8
  clear hb8
  simp only []
  go_wp2_with fail
  refine (check_any _ _ _ _ HM.out).mono ?_
  rintro e w9 ⟨rfl, hb9⟩
  have HB9 := Lib.hid hb9
  clear hb9
  go_wp2_with fail
  refine (rcheck_any _ _ _ _ HM.out).mono ?_
  rintro e w10 ⟨rfl, hb10⟩
  have HB10 := Lib.hid hb10
  clear hb10
  go_wp2_with fail
  refine (same_b _ _ _ _ _ _ zs ys _ (((((((((((HX.out).below HB1.out).below HB2.out).below HB3.out).below HB4.out).below HB5.out).below HB6.out).below HB7.out).below HB8.out).below HB9.out).below HB10.out) (((((((((((HY.out).below HB1.out).below HB2.out).below HB3.out).below HB4.out).below HB5.out).below HB6.out).below HB7.out).below HB8.out).below HB9.out).below HB10.out)).mono ?_
  rintro e w11 ⟨rfl, hb11⟩
  have HB11 := Lib.hid hb11
  clear hb11
  go_wp2_with fail
  refine (rsame_b _ _ _ _ _ _ zs ys _ ((((((((((((HX.out).below HB1.out).below HB2.out).below HB3.out).below HB4.out).below HB5.out).below HB6.out).below HB7.out).below HB8.out).below HB9.out).below HB10.out).below HB11.out) ((((((((((((HY.out).below HB1.out).below HB2.out).below HB3.out).below HB4.out).below HB5.out).below HB6.out).below HB7.out).below HB8.out).below HB9.out).below HB10.out).below HB11.out)).mono ?_
  rintro e w12 ⟨rfl, hb12⟩
  have HB12 := Lib.hid hb12
  clear hb12
  have HL := Lib.hid ((((((((((HO3.out).below HB4.out).below HB5.out).below HB6.out).below HB7.out).below HB8.out).below HB9.out).below HB10.out).below HB11.out).below HB12.out)
  have HK : Hid (Below w2.heap.size w2 w12) := Lib.hid (below3 (below3 (below3 (below3 (below3 (below3 (below3 (below3 (below3 (HB3.out) HB4.out) HB5.out) HB6.out) HB7.out) HB8.out) HB9.out) HB10.out) HB11.out) HB12.out)
  have hcs : cs.length * 8 ≤ 140737488351232 := HL.out.1
  go_wp2
  go_loopw [115] (fun t wr => IncRel w2 A3 c3 cs.length t wr) (fun t _ => cs.length - (intOf t).toNat)
  case atStart => exact ⟨0, Nat.zero_le _, rfl, cs, rfl, HL.out, HK.out⟩
  case round =>
    obtain ⟨j, hj, rfl, xs, hxl, ho, hb⟩ := hrel
    have HO := Lib.hid ho
    have HB := Lib.hid hb
    have HXL := Lib.hid hxl
    clear ho hb hxl
    by_cases hlt : j < cs.length
    · obtain ⟨g, rfl, hg, hgl, _⟩ := HO.out.form (by rw [HXL.out]; omega)
      obtain ⟨hc, hf⟩ := HO.out.at_ (j := j) (by rw [HXL.out]; exact hlt)
      go_wp2
      go_roundw
      case rel => exact ⟨j + 1, by omega, by go_num, xs.set j (wrap64 (nth xs j + 1)), by rw [List.length_set]; exact HXL.out, HO.out.set_ j (fit_wrap _), HB.out.setCell (by exact hg) _⟩
      case measure => simp [intOf]; omega
    · have : j = cs.length := by omega
      subst this
      go_wp2_with fail
      refine (rsame_b _ _ _ _ _ _ zs zs _ ((((HX.out).below HB1.out).below HB2.out).below HB.out) ((HO2.out).ints.below HB.out)).mono ?_
      rw [sameB_self]
      rintro e wz ⟨rfl, hbz⟩
      have HZ := Lib.hid hbz
      clear hbz
      go_wp2
      go_ret
      exact ⟨rfl, below3 (below3 HB0.out (below3 (below3 (HB1.out) HB2.out) HB.out)) HZ.out⟩

set_option maxHeartbeats 800000 in
set_option maxRecDepth 100000 in
theorem does_le_gt (hx : Ints w A n zs) (hy : Ints w A' n' ys) (fa : Fit a) (fb : Fit b) (h1 : n ≤ 300) (g1 : n' ≤ 300) (f1 : 65536 < m) :
    Calls Try.prog 3 #[.slice A n c, .slice A' n' c', .agg #[.int .i64 k, .int .i64 p, .int .i64 a, .int .i64 b], .int .i64 m] w (TrueAns w) := by
  have bx := hx.2.1
  have hm : n ≤ 9223372036854775807 := by omega
  have d1 : decide ((300 : Int) < n) = false := by simp; omega
  have d3 : decide ((300 : Int) < n') = false := by simp; omega
  have d4 : decide (300 < m) = true := by simp; omega
  have d5 : decide (m ≤ 65536) = false := by simp; omega
  generalize e : doo zs k p a b = r
  obtain ⟨cs, x, y⟩ := r
  generalize en : newS m = rn
  obtain ⟨ns, yn⟩ := rn
  have E := Lib.hid e
  have N := Lib.hid en
  have HX1 := Lib.hid hx
  have HY1 := Lib.hid hy
  have FA := Lib.hid fa
  have FB := Lib.hid fb
  have HM := Lib.hid hm
  clear e en hx hy fa fb hm
  go_enter Try.func3, Try.ntmps3
  go_wp2_with fail
  obtain ⟨w0, hw0⟩ : ∃ w0, w0 = w.alloc (.cells #[.int .i64 k, .int .i64 p, .int .i64 a, .int .i64 b] 25) := ⟨_, rfl⟩
  rw [← hw0]
  have BX : Hid (Box w0 w.heap.size k p a b) := by rw [hw0]; exact Box.new_ w k p a b _
  have HB0 : Hid (Below w.heap.size w w0) := by rw [hw0]; exact (Below.refl _ _).alloc (Nat.le_refl _) _
  clear hw0
  have HX := Lib.hid (HX1.out.below HB0.out)
  have HY := Lib.hid (HY1.out.below HB0.out)
  go_wp2_with fail
  refine (live_any _).mono ?_
  rintro e w1 ⟨rfl, hb1⟩
  have HB1 := Lib.hid hb1
  clear hb1
  go_wp2_with (at_builtin; refine wpList_append_ints _ rfl _ _ 23 rfl 2 Try.underlying23 infoI w1.heap.size _ _ [] 0 rfl rfl (OwnI.nil_ _ w1 _) _ _ _ zs rfl ((HX.out).below HB1.out) (by simpa using bx) (by simp) ?_; intro A2 c2 w2 ho2 hg2; rw [List.nil_append] at ho2 ⊢; have HO2 := Lib.hid ho2; have HB2 := Lib.hid ((Below.refl w1.heap.size w1).grown hg2 (Nat.le_refl _) (by simp [Value.ownBlock])); clear ho2 hg2; obtain ⟨bg, b0, b1, b2, b3⟩ := ((BX.out).below HB1.out).below HB2.out; clear bg)
  go_wp2_with fail
  refine (do_any _ _ _ zs _ _ _ _ _ (((HX.out).below HB1.out).below HB2.out) FA.out FB.out).mono ?_
  rw [E.out]
  rintro e w3 ⟨A3, c3, rfl, ho3, hb3⟩
  have HB3 := Lib.hid hb3
  have HO3 := Lib.hid ho3
  clear hb3 ho3
  simp only []
  clear b0 b1 b2 b3
  obtain ⟨bg, b0, b1, b2, b3⟩ := (((BX.out).below HB1.out).below HB2.out).below HB3.out
  clear bg
  go_wp2_with fail
  refine (rdo_any _ _ _ zs _ _ _ _ _ ((((HX.out).below HB1.out).below HB2.out).below HB3.out) FA.out FB.out).mono ?_
  rw [E.out]
  rintro e w4 ⟨A4, c4, rfl, ho4, hb4⟩
  have HB4 := Lib.hid hb4
  have HO4 := Lib.hid ho4
  clear hb4 ho4
  simp only []
  clear b0 b1 b2 b3
  go_wp2_with fail
  refine (new_any _ _).mono ?_
  rw [N.out]
  rintro e w5 ⟨A5, c5, rfl, ho5, hb5⟩
  have HB5 := Lib.hid hb5
  have HO5 := Lib.hid ho5
  clear hb5 ho5
  simp only []
  go_wp2_with fail
  refine (rnew_any _ _).mono ?_
  rw [N.out]
  rintro e w6 ⟨A6, c6, rfl, ho6, hb6⟩
  have HB6 := Lib.hid hb6
  have HO6 := Lib.hid ho6
  clear hb6 ho6
  simp only []
  go_wp2_with fail
  refine (rsame_b _ _ _ _ _ _ cs cs _ ((((HO3.out).below HB4.out).below HB5.out).below HB6.out).ints (((HO4.out).below HB5.out).below HB6.out).ints).mono ?_
  rw [sameB_self]
  rintro e w7 ⟨rfl, hb7⟩
  have HB7 := Lib.hid hb7
  clear hb7
  simp only []
  go_wp2_with fail
  refine (rsame_b _ _ _ _ _ _ ns ns _ (((HO5.out).below HB6.out).below HB7.out).ints ((HO6.out).below HB7.out).ints).mono ?_
  rw [sameB_self]
  rintro e w8 ⟨rfl, hb8⟩
  have HB8 := Lib.hid hb8
  clear hb8
  simp only []
  go_wp2_with fail
  refine (check_any _ _ _ _ HM.out).mono ?_
  rintro e w9 ⟨rfl, hb9⟩
  have HB9 := Lib.hid hb9
  clear hb9
  go_wp2_with fail
  refine (rcheck_any _ _ _ _ HM.out).mono ?_
  rintro e w10 ⟨rfl, hb10⟩
  have HB10 := Lib.hid hb10
  clear hb10
  go_wp2_with fail
  refine (same_b _ _ _ _ _ _ zs ys _ (((((((((((HX.out).below HB1.out).below HB2.out).below HB3.out).below HB4.out).below HB5.out).below HB6.out).below HB7.out).below HB8.out).below HB9.out).below HB10.out) (((((((((((HY.out).below HB1.out).below HB2.out).below HB3.out).below HB4.out).below HB5.out).below HB6.out).below HB7.out).below HB8.out).below HB9.out).below HB10.out)).mono ?_
  rintro e w11 ⟨rfl, hb11⟩
  have HB11 := Lib.hid hb11
  clear hb11
  go_wp2_with fail
  refine (rsame_b _ _ _ _ _ _ zs ys _ ((((((((((((HX.out).below HB1.out).below HB2.out).below HB3.out).below HB4.out).below HB5.out).below HB6.out).below HB7.out).below HB8.out).below HB9.out).below HB10.out).below HB11.out) ((((((((((((HY.out).below HB1.out).below HB2.out).below HB3.out).below HB4.out).below HB5.out).below HB6.out).below HB7.out).below HB8.out).below HB9.out).below HB10.out).below HB11.out)).mono ?_
  rintro e w12 ⟨rfl, hb12⟩
  have HB12 := Lib.hid hb12
  clear hb12
  have HL := Lib.hid ((((((((((HO3.out).below HB4.out).below HB5.out).below HB6.out).below HB7.out).below HB8.out).below HB9.out).below HB10.out).below HB11.out).below HB12.out)
  have HK : Hid (Below w2.heap.size w2 w12) := Lib.hid (below3 (below3 (below3 (below3 (below3 (below3 (below3 (below3 (below3 (HB3.out) HB4.out) HB5.out) HB6.out) HB7.out) HB8.out) HB9.out) HB10.out) HB11.out) HB12.out)
  have hcs : cs.length * 8 ≤ 140737488351232 := HL.out.1
  go_wp2
  go_loopw [115] (fun t wr => IncRel w2 A3 c3 cs.length t wr) (fun t _ => cs.length - (intOf t).toNat)
  case atStart => exact ⟨0, Nat.zero_le _, rfl, cs, rfl, HL.out, HK.out⟩
  case round =>
    obtain ⟨j, hj, rfl, xs, hxl, ho, hb⟩ := hrel
    have HO := Lib.hid ho
    have HB := Lib.hid hb
    have HXL := Lib.hid hxl
    clear ho hb hxl
    by_cases hlt : j < cs.length
    · obtain ⟨g, rfl, hg, hgl, _⟩ := HO.out.form (by rw [HXL.out]; omega)
      obtain ⟨hc, hf⟩ := HO.out.at_ (j := j) (by rw [HXL.out]; exact hlt)
      go_wp2
      go_roundw
      case rel => exact ⟨j + 1, by omega, by go_num, xs.set j (wrap64 (nth xs j + 1)), by rw [List.length_set]; exact HXL.out, HO.out.set_ j (fit_wrap _), HB.out.setCell (by exact hg) _⟩
      case measure => simp [intOf]; omega
    · have : j = cs.length := by omega
      subst this
      go_wp2_with fail
      refine (rsame_b _ _ _ _ _ _ zs zs _ ((((HX.out).below HB1.out).below HB2.out).below HB.out) ((HO2.out).ints.below HB.out)).mono ?_
      rw [sameB_self]
      rintro e wz ⟨rfl, hbz⟩
      have HZ := Lib.hid hbz
      clear hbz
      go_wp2
      go_ret
      exact ⟨rfl, below3 (below3 HB0.out (below3 (below3 (HB1.out) HB2.out) HB.out)) HZ.out⟩

set_option maxHeartbeats 800000 in
set_option maxRecDepth 100000 in
theorem does_gt_le (hx : Ints w A n zs) (hy : Ints w A' n' ys) (fa : Fit a) (fb : Fit b) (h1 : 65536 < n) (g1 : n' ≤ 300) (f1 : m ≤ 300) :
    Calls Try.prog 3 #[.slice A n c, .slice A' n' c', .agg #[.int .i64 k, .int .i64 p, .int .i64 a, .int .i64 b], .int .i64 m] w (TrueAns w) := by
  have bx := hx.2.1
  have hm : n ≤ 9223372036854775807 := by omega
  have d1 : decide ((300 : Int) < n) = true := by simp; omega
  have d2 : decide ((n : Int) ≤ 65536) = false := by simp; omega
  have d3 : decide ((300 : Int) < n') = false := by simp; omega
  have d4 : decide (300 < m) = false := by simp; omega
  generalize e : doo zs k p a b = r
  obtain ⟨cs, x, y⟩ := r
  generalize en : newS m = rn
  obtain ⟨ns, yn⟩ := rn
  have E := Lib.hid e
  have N := Lib.hid en
  have HX1 := Lib.hid hx
  have HY1 := Lib.hid hy
  have FA := Lib.hid fa
  have FB := Lib.hid fb
  have HM := Lib.hid hm
  clear e en hx hy fa fb hm
  go_enter Try.func3, Try.ntmps3
  go_wp2_with fail
  obtain ⟨w0, hw0⟩ : ∃ w0, w0 = w.alloc (.cells #[.int .i64 k, .int .i64 p, .int .i64 a, .int .i64 b] 25) := ⟨_, rfl⟩
  rw [← hw0]
  have BX : Hid (Box w0 w.heap.size k p a b) := by rw [hw0]; exact Box.new_ w k p a b _
  have HB0 : Hid (Below w.heap.size w w0) := by rw [hw0]; exact (Below.refl _ _).alloc (Nat.le_refl _) _
  clear hw0
  have HX := Lib.hid (HX1.out.below HB0.out)
  have HY := Lib.hid (HY1.out.below HB0.out)
  go_wp2_with fail
  refine (live_any _).mono ?_
  rintro e w1 ⟨rfl, hb1⟩
  have HB1 := Lib.hid hb1
  clear hb1
  go_wp2_with (at_builtin; refine wpList_append_ints _ rfl _ _ 23 rfl 2 Try.underlying23 infoI w1.heap.size _ _ [] 0 rfl rfl (OwnI.nil_ _ w1 _) _ _ _ zs rfl ((HX.out).below HB1.out) (by simpa using bx) (by simp) ?_; intro A2 c2 w2 ho2 hg2; rw [List.nil_append] at ho2 ⊢; have HO2 := Lib.hid ho2; have HB2 := Lib.hid ((Below.refl w1.heap.size w1).grown hg2 (Nat.le_refl _) (by simp [Value.ownBlock])); clear ho2 hg2; obtain ⟨bg, b0, b1, b2, b3⟩ := ((BX.out).below HB1.out).below HB2.out; clear bg)
  go_wp2_with fail
  refine (do_any _ _ _ zs _ _ _ _ _ (((HX.out).below HB1.out).below HB2.out) FA.out FB.out).mono ?_
  rw [E.out]
  rintro e w3 ⟨A3, c3, rfl, ho3, hb3⟩
  have HB3 := Lib.hid hb3
  have HO3 := Lib.hid ho3
  clear hb3 ho3
  simp only []
  clear b0 b1 b2 b3
  obtain ⟨bg, b0, b1, b2, b3⟩ := (((BX.out).below HB1.out).below HB2.out).below HB3.out
  clear bg
  go_wp2_with fail
  refine (rdo_any _ _ _ zs _ _ _ _ _ ((((HX.out).below HB1.out).below HB2.out).below HB3.out) FA.out FB.out).mono ?_
  rw [E.out]
  rintro e w4 ⟨A4, c4, rfl, ho4, hb4⟩
  have HB4 := Lib.hid hb4
  have HO4 := Lib.hid ho4
  clear hb4 ho4
  simp only []
  clear b0 b1 b2 b3
  go_wp2_with fail
  refine (new_any _ _).mono ?_
  rw [N.out]
  rintro e w5 ⟨A5, c5, rfl, ho5, hb5⟩
  have HB5 := Lib.hid hb5
  have HO5 := Lib.hid ho5
  clear hb5 ho5
  simp only []
  go_wp2_with fail
  refine (rnew_any _ _).mono ?_
  rw [N.out]
  rintro e w6 ⟨A6, c6, rfl, ho6, hb6⟩
  have HB6 := Lib.hid hb6
  have HO6 := Lib.hid ho6
  clear hb6 ho6
  simp only []
  go_wp2_with fail
  refine (rsame_b _ _ _ _ _ _ cs cs _ ((((HO3.out).below HB4.out).below HB5.out).below HB6.out).ints (((HO4.out).below HB5.out).below HB6.out).ints).mono ?_
  rw [sameB_self]
  rintro e w7 ⟨rfl, hb7⟩
  have HB7 := Lib.hid hb7
  clear hb7
  simp only []
  go_wp2_with fail
  refine (rsame_b _ _ _ _ _ _ ns ns _ (((HO5.out).below HB6.out).below HB7.out).ints ((HO6.out).below HB7.out).ints).mono ?_
  rw [sameB_self]
  rintro e w8 ⟨rfl, hb8⟩
  have HB8 := Lib.hid hb8
  clear hb8
  simp only []
  go_wp2_with fail
  refine (check_any _ _ _ _ HM.out).mono ?_
  rintro e w9 ⟨rfl, hb9⟩
  have HB9 := Lib.hid hb9
  clear hb9
  go_wp2_with fail
  refine (rcheck_any _ _ _ _ HM.out).mono ?_
  rintro e w10 ⟨rfl, hb10⟩
  have HB10 := Lib.hid hb10
  clear hb10
  go_wp2_with fail
  refine (same_b _ _ _ _ _ _ zs ys _ (((((((((((HX.out).below HB1.out).below HB2.out).below HB3.out).below HB4.out).below HB5.out).below HB6.out).below HB7.out).below HB8.out).below HB9.out).below HB10.out) (((((((((((HY.out).below HB1.out).below HB2.out).below HB3.out).below HB4.out).below HB5.out).below HB6.out).below HB7.out).below HB8.out).below HB9.out).below HB10.out)).mono ?_
  rintro e w11 ⟨rfl, hb11⟩
  have HB11 := Lib.hid hb11
  clear hb11
  go_wp2_with fail
  refine (rsame_b _ _ _ _ _ _ zs ys _ ((((((((((((HX.out).below HB1.out).below HB2.out).below HB3.out).below HB4.out).below HB5.out).below HB6.out).below HB7.out).below HB8.out).below HB9.out).below HB10.out).below HB11.out) ((((((((((((HY.out).below HB1.out).below HB2.out).below HB3.out).below HB4.out).below HB5.out).below HB6.out).below HB7.out).below HB8.out).below HB9.out).below HB10.out).below HB11.out)).mono ?_
  rintro e w12 ⟨rfl, hb12⟩
  have HB12 := Lib.hid hb12
  clear hb12
  have HL := Lib.hid ((((((((((HO3.out).below HB4.out).below HB5.out).below HB6.out).below HB7.out).below HB8.out).below HB9.out).below HB10.out).below HB11.out).below HB12.out)
  have HK : Hid (Below w2.heap.size w2 w12) := Lib.hid (below3 (below3 (below3 (below3 (below3 (below3 (below3 (below3 (below3 (HB3.out) HB4.out) HB5.out) HB6.out) HB7.out) HB8.out) HB9.out) HB10.out) HB11.out) HB12.out)
  have hcs : cs.length * 8 ≤ 140737488351232 := HL.out.1
  go_wp2
  go_loopw [115] (fun t wr => IncRel w2 A3 c3 cs.length t wr) (fun t _ => cs.length - (intOf t).toNat)
  case atStart => exact ⟨0, Nat.zero_le _, rfl, cs, rfl, HL.out, HK.out⟩
  case round =>
    obtain ⟨j, hj, rfl, xs, hxl, ho, hb⟩ := hrel
    have HO := Lib.hid ho
    have HB := Lib.hid hb
    have HXL := Lib.hid hxl
    clear ho hb hxl
    by_cases hlt : j < cs.length
    · obtain ⟨g, rfl, hg, hgl, _⟩ := HO.out.form (by rw [HXL.out]; omega)
      obtain ⟨hc, hf⟩ := HO.out.at_ (j := j) (by rw [HXL.out]; exact hlt)
      go_wp2
      go_roundw
      case rel => exact ⟨j + 1, by omega, by go_num, xs.set j (wrap64 (nth xs j + 1)), by rw [List.length_set]; exact HXL.out, HO.out.set_ j (fit_wrap _), HB.out.setCell (by exact hg) _⟩
      case measure => simp [intOf]; omega
    · have : j = cs.length := by omega
      subst this
      go_wp2_with fail
      refine (rsame_b _ _ _ _ _ _ zs zs _ ((((HX.out).below HB1.out).below HB2.out).below HB.out) ((HO2.out).ints.below HB.out)).mono ?_
      rw [sameB_self]
      rintro e wz ⟨rfl, hbz⟩
      have HZ := Lib.hid hbz
      clear hbz
      go_wp2
      go_ret
      exact ⟨rfl, below3 (below3 HB0.out (below3 (below3 (HB1.out) HB2.out) HB.out)) HZ.out⟩

set_option maxHeartbeats 800000 in
set_option maxRecDepth 100000 in
theorem does_gt_gt (hx : Ints w A n zs) (hy : Ints w A' n' ys) (fa : Fit a) (fb : Fit b) (h1 : 65536 < n) (g1 : n' ≤ 300) (f1 : 65536 < m) :
    Calls Try.prog 3 #[.slice A n c, .slice A' n' c', .agg #[.int .i64 k, .int .i64 p, .int .i64 a, .int .i64 b], .int .i64 m] w (TrueAns w) := by
  have bx := hx.2.1
  have hm : n ≤ 9223372036854775807 := by omega
  have d1 : decide ((300 : Int) < n) = true := by simp; omega
  have d2 : decide ((n : Int) ≤ 65536) = false := by simp; omega
  have d3 : decide ((300 : Int) < n') = false := by simp; omega
  have d4 : decide (300 < m) = true := by simp; omega
  have d5 : decide (m ≤ 65536) = false := by simp; omega
  generalize e : doo zs k p a b = r
  obtain ⟨cs, x, y⟩ := r
  generalize en : newS m = rn
  obtain ⟨ns, yn⟩ := rn
  have E := Lib.hid e
  have N := Lib.hid en
  have HX1 := Lib.hid hx
  have HY1 := Lib.hid hy
  have FA := Lib.hid fa
  have FB := Lib.hid fb
  have HM := Lib.hid hm
  clear e en hx hy fa fb hm
  go_enter Try.func3, Try.ntmps3
  go_wp2_with fail
  obtain ⟨w0, hw0⟩ : ∃ w0, w0 = w.alloc (.cells #[.int .i64 k, .int .i64 p, .int .i64 a, .int .i64 b] 25) := ⟨_, rfl⟩
  rw [← hw0]
  have BX : Hid (Box w0 w.heap.size k p a b) := by rw [hw0]; exact Box.new_ w k p a b _
  have HB0 : Hid (Below w.heap.size w w0) := by rw [hw0]; exact (Below.refl _ _).alloc (Nat.le_refl _) _
  clear hw0
  have HX := Lib.hid (HX1.out.below HB0.out)
  have HY := Lib.hid (HY1.out.below HB0.out)
  go_wp2_with fail
  refine (live_any _).mono ?_
  rintro e w1 ⟨rfl, hb1⟩
  have HB1 := Lib.hid hb1
  clear hb1
  go_wp2_with (at_builtin; refine wpList_append_ints _ rfl _ _ 23 rfl 2 Try.underlying23 infoI w1.heap.size _ _ [] 0 rfl rfl (OwnI.nil_ _ w1 _) _ _ _ zs rfl ((HX.out).below HB1.out) (by simpa using bx) (by simp) ?_; intro A2 c2 w2 ho2 hg2; rw [List.nil_append] at ho2 ⊢; have HO2 := Lib.hid ho2; have HB2 := Lib.hid ((Below.refl w1.heap.size w1).grown hg2 (Nat.le_refl _) (by simp [Value.ownBlock])); clear ho2 hg2; obtain ⟨bg, b0, b1, b2, b3⟩ := ((BX.out).below HB1.out).below HB2.out; clear bg)
  go_wp2_with fail
  refine (do_any _ _ _ zs _ _ _ _ _ (((HX.out).below HB1.out).below HB2.out) FA.out FB.out).mono ?_
  rw [E.out]
  rintro e w3 ⟨A3, c3, rfl, ho3, hb3⟩
  have HB3 := Lib.hid hb3
  have HO3 := Lib.hid ho3
  clear hb3 ho3
  simp only []
  clear b0 b1 b2 b3
  obtain ⟨bg, b0, b1, b2, b3⟩ := (((BX.out).below HB1.out).below HB2.out).below HB3.out
  clear bg
  go_wp2_with fail
  refine (rdo_any _ _ _ zs _ _ _ _ _ ((((HX.out).below HB1.out).below HB2.out).below HB3.out) FA.out FB.out).mono ?_
  rw [E.out]
  rintro e w4 ⟨A4, c4, rfl, ho4, hb4⟩
  have HB4 := Lib.hid hb4
  have HO4 := Lib.hid ho4
  clear hb4 ho4
  simp only []
  clear b0 b1 b2 b3
  go_wp2_with fail
  refine (new_any _ _).mono ?_
  rw [N.out]
  rintro e w5 ⟨A5, c5, rfl, ho5, hb5⟩
  have HB5 := Lib.hid hb5
  have HO5 := Lib.hid ho5
  clear hb5 ho5
  simp only []
  go_wp2_with fail
  refine (rnew_any _ _).mono ?_
  rw [N.out]
  rintro e w6 ⟨A6, c6, rfl, ho6, hb6⟩
  have HB6 := Lib.hid hb6
  have HO6 := Lib.hid ho6
  clear hb6 ho6
  simp only []
  go_wp2_with fail
  refine (rsame_b _ _ _ _ _ _ cs cs _ ((((HO3.out).below HB4.out).below HB5.out).below HB6.out).ints (((HO4.out).below HB5.out).below HB6.out).ints).mono ?_
  rw [sameB_self]
  rintro e w7 ⟨rfl, hb7⟩
  have HB7 := Lib.hid hb7
  clear hb7
  simp only []
  go_wp2_with fail
  refine (rsame_b _ _ _ _ _ _ ns ns _ (((HO5.out).below HB6.out).below HB7.out).ints ((HO6.out).below HB7.out).ints).mono ?_
  rw [sameB_self]
  rintro e w8 ⟨rfl, hb8⟩
  have HB8 := Lib.hid hb8
  clear hb8
  simp only []
  go_wp2_with fail
  refine (check_any _ _ _ _ HM.out).mono ?_
  rintro e w9 ⟨rfl, hb9⟩
  have HB9 := Lib.hid hb9
  clear hb9
  go_wp2_with fail
  refine (rcheck_any _ _ _ _ HM.out).mono ?_
  rintro e w10 ⟨rfl, hb10⟩
  have HB10 := Lib.hid hb10
  clear hb10
  go_wp2_with fail
  refine (same_b _ _ _ _ _ _ zs ys _ (((((((((((HX.out).below HB1.out).below HB2.out).below HB3.out).below HB4.out).below HB5.out).below HB6.out).below HB7.out).below HB8.out).below HB9.out).below HB10.out) (((((((((((HY.out).below HB1.out).below HB2.out).below HB3.out).below HB4.out).below HB5.out).below HB6.out).below HB7.out).below HB8.out).below HB9.out).below HB10.out)).mono ?_
  rintro e w11 ⟨rfl, hb11⟩
  have HB11 := Lib.hid hb11
  clear hb11
  go_wp2_with fail
  refine (rsame_b _ _ _ _ _ _ zs ys _ ((((((((((((HX.out).below HB1.out).below HB2.out).below HB3.out).below HB4.out).below HB5.out).below HB6.out).below HB7.out).below HB8.out).below HB9.out).below HB10.out).below HB11.out) ((((((((((((HY.out).below HB1.out).below HB2.out).below HB3.out).below HB4.out).below HB5.out).below HB6.out).below HB7.out).below HB8.out).below HB9.out).below HB10.out).below HB11.out)).mono ?_
  rintro e w12 ⟨rfl, hb12⟩
  have HB12 := Lib.hid hb12
  clear hb12
  have HL := Lib.hid ((((((((((HO3.out).below HB4.out).below HB5.out).below HB6.out).below HB7.out).below HB8.out).below HB9.out).below HB10.out).below HB11.out).below HB12.out)
  have HK : Hid (Below w2.heap.size w2 w12) := Lib.hid (below3 (below3 (below3 (below3 (below3 (below3 (below3 (below3 (below3 (HB3.out) HB4.out) HB5.out) HB6.out) HB7.out) HB8.out) HB9.out) HB10.out) HB11.out) HB12.out)
  have hcs : cs.length * 8 ≤ 140737488351232 := HL.out.1
  go_wp2
  go_loopw [115] (fun t wr => IncRel w2 A3 c3 cs.length t wr) (fun t _ => cs.length - (intOf t).toNat)
  case atStart => exact ⟨0, Nat.zero_le _, rfl, cs, rfl, HL.out, HK.out⟩
  case round =>
    obtain ⟨j, hj, rfl, xs, hxl, ho, hb⟩ := hrel
    have HO := Lib.hid ho
    have HB := Lib.hid hb
    have HXL := Lib.hid hxl
    clear ho hb hxl
    by_cases hlt : j < cs.length
    · obtain ⟨g, rfl, hg, hgl, _⟩ := HO.out.form (by rw [HXL.out]; omega)
      obtain ⟨hc, hf⟩ := HO.out.at_ (j := j) (by rw [HXL.out]; exact hlt)
      go_wp2
      go_roundw
      case rel => exact ⟨j + 1, by omega, by go_num, xs.set j (wrap64 (nth xs j + 1)), by rw [List.length_set]; exact HXL.out, HO.out.set_ j (fit_wrap _), HB.out.setCell (by exact hg) _⟩
      case measure => simp [intOf]; omega
    · have : j = cs.length := by omega
      subst this
      go_wp2_with fail
      refine (rsame_b _ _ _ _ _ _ zs zs _ ((((HX.out).below HB1.out).below HB2.out).below HB.out) ((HO2.out).ints.below HB.out)).mono ?_
      rw [sameB_self]
      rintro e wz ⟨rfl, hbz⟩
      have HZ := Lib.hid hbz
      clear hbz
      go_wp2
      go_ret
      exact ⟨rfl, below3 (below3 HB0.out (below3 (below3 (HB1.out) HB2.out) HB.out)) HZ.out⟩

theorem does_any (hx : Ints w A n zs) (hy : Ints w A' n' ys) (fa : Fit a) (fb : Fit b) :
    Calls Try.prog 3 #[.slice A n c, .slice A' n' c', .agg #[.int .i64 k, .int .i64 p, .int .i64 a, .int .i64 b], .int .i64 m] w (TrueAns w) := by
  have hm := hx.2.1
  have ho := hy.2.1
  by_cases h1 : n ≤ 300
  · by_cases g1 : n' ≤ 300
    · by_cases f1 : m ≤ 300
      · exact does_le_le A A' n c n' c' zs ys k p a b m w hx hy fa fb h1 g1 f1
      · by_cases f2 : m ≤ 65536
        · exact does_s3le A A' n c n' c' k p a b m w (by omega) (by omega) h1 g1 (by omega) f2
        · exact does_le_gt A A' n c n' c' zs ys k p a b m w hx hy fa fb h1 g1 (by omega)
    · exact does_s2le A A' n c n' c' k p a b m w (by omega) (by omega) h1 (by omega)
  · by_cases h2 : n ≤ 65536
    · exact does_s1 A A' n c n' c' k p a b m w (by omega) (by omega) (by omega) h2
    · by_cases g1 : n' ≤ 300
      · by_cases f1 : m ≤ 300
        · exact does_gt_le A A' n c n' c' zs ys k p a b m w hx hy fa fb (by omega) g1 f1
        · by_cases f2 : m ≤ 65536
          · exact does_s3gt A A' n c n' c' k p a b m w (by omega) (by omega) (by omega) g1 (by omega) f2
          · exact does_gt_gt A A' n c n' c' zs ys k p a b m w hx hy fa fb (by omega) g1 (by omega)
      · exact does_s2gt A A' n c n' c' k p a b m w (by omega) (by omega) (by omega) (by omega)
end

end Go.Proofs.Ytmmilceemnggiaa

/-
  The contracts of the program's small functions of layer 7, and of what its accesses share: a count loaded, a slot loaded, a number stored, the top claimed.
-/
import Derived.Test.YtfmiamjbhlglbaaDr
namespace Go.Proofs.Ytfmiamjbhlglbaa
open Go.RowKit

/-- A deque in its cells. -/
structure Dq (base cap : Nat) (ms : List Int) : Prop where
  len : base + 2 + cap ≤ ms.length
  big : ms.length ≤ 65536
  c1 : 1 ≤ cap
  c2 : cap ≤ 1024
/-- A hand's numbers. -/
structure HdB (h : Hd) : Prop where
  v : Fit h.v
  t : cntOk h.t (-1)
  b : cntOk h.b (-1)
theorem Dq.set {base cap : Nat} {ms : List Int} (d : Dq base cap ms) (j : Nat) (x : Int) : Dq base cap (ms.set j x) := ⟨by simpa using d.len, by simpa using d.big, d.c1, d.c2⟩

theorem counts_any (n least : Int) (w : World) : Calls Try.prog 29 #[.int .i64 n, .int .i64 least] w (RetB (.bool (decide (cntOk n least))) w) := by
  by_cases h1 : least ≤ n
  · by_cases h2 : n ≤ 1099511627776
    · have h : decide (cntOk n least) = true := decide_eq_true ⟨h1, h2⟩
      rw [h]
      go_enter Try.func29, Try.ntmps29
      go_wp2
      go_ret
      exact ⟨by simp, Below.refl _ _⟩
    · have h : decide (cntOk n least) = false := decide_eq_false (fun q => h2 q.2)
      rw [h]
      go_enter Try.func29, Try.ntmps29
      go_wp2
      go_ret
      exact ⟨by simp, Below.refl _ _⟩
  · have h : decide (cntOk n least) = false := decide_eq_false (fun q => h1 q.1)
    rw [h]
    go_enter Try.func29, Try.ntmps29
    go_wp2
    go_ret
    exact ⟨by simp, Below.refl _ _⟩

/-- A slot's place from a deque's base on. -/
def slR (cap : Nat) (n : Int) : Nat := 2 + (n.tmod (cap : Int)).toNat
theorem slR_add (base cap : Nat) (n : Int) : base + slR cap n = slI base cap n := by unfold slR slI; omega
theorem slR_lt {cap : Nat} (h1 : 1 ≤ cap) {n : Int} (hn : 0 ≤ n) : slR cap n < 2 + cap := by
  have hlt : n.tmod (cap : Int) < cap := Int.tmod_lt_of_pos _ (by omega)
  have h0 : 0 ≤ n.tmod (cap : Int) := Int.tmod_nonneg _ hn
  unfold slR
  omega
theorem slotat_any (base cap : Nat) (n : Int) (w : World) (h1 : 1 ≤ cap) (h2 : cap ≤ 1024) (hn : 0 ≤ n) :
    Calls Try.prog 30 #[.agg #[.int .i64 base, .int .i64 cap], .int .i64 n] w (RetB (.int .i64 (slR cap n)) w) := by
  have B0 := Lib.hid ((Below.refl w.heap.size w).alloc (Nat.le_refl _) (.cells #[.int .i64 base, .int .i64 cap] 25))
  have k0 := Bk.new w 25 #[.int .i64 base, .int .i64 cap]
  have c1 : _ = some (Value.int .i64 cap) := k0.cell 1
  have hz : (cap : Int) ≠ 0 := by omega
  have hlt : n.tmod (cap : Int) < cap := Int.tmod_lt_of_pos _ (by omega)
  have h0 : 0 ≤ n.tmod (cap : Int) := Int.tmod_nonneg _ hn
  obtain ⟨r, hr⟩ : ∃ r, n.tmod (cap : Int) = r := ⟨_, rfl⟩
  rw [hr] at hlt h0
  have HS : Hid ((2 : Int) + r = (slR cap n : Int)) := Lib.hid (by unfold slR; rw [hr]; omega)
  clear k0
  go_enter Try.func30, Try.ntmps30
  go_wp2
  go_ret
  exact RetB.of (ret_i64 HS.out) B0.out

section
variable (w : World) (g : Nat) (h : Hd) (base cap : Nat) (ms : List Int) (A : Option Addr) (c : Nat)

/-- A number is stored. -/
theorem mstore_any (hR : Rch w g h base cap ms A c) (D : Dq base cap ms) (at_ : Nat) (hj : base + at_ < ms.length) (x : Int) (fx : Fit x) :
    Calls Try.prog 55 #[.pointer (some ⟨g, 0, none⟩), .int .i64 at_, .int .i64 x] w (Met g 0 h base cap (ms.set (base + at_) x) w) := by
  have HD := Lib.hid (mdo_any w g h base cap ms A c hR D.big at_ hj 1 x 0 0 _ (.store x 0 fx))
  clear hR fx hj D
  go_enter Try.func55, Try.ntmps55
  go_wp2_with fail
  refine HD.out.mono ?_
  rintro e w1 ⟨rfl, g1, A1, c1, r1⟩
  have G1 := Lib.hid g1
  have R1 := Lib.hid r1
  clear g1 r1
  go_wp2
  go_ret
  exact ⟨rfl, G1.out, A1, c1, R1.out⟩

/-- A count is loaded. -/
theorem loadcount_ok (hR : Rch w g h base cap ms A c) (D : Dq base cap ms) (at_ : Nat) (hj : base + at_ < ms.length) (least y : Int) (hy : nth ms (base + at_) = y) (hc : cntOk y least) :
    Calls Try.prog 53 #[.pointer (some ⟨g, 0, none⟩), .int .i64 at_, .int .i64 least] w (Met2 g (.int .i64 y) 0 h base cap ms w) := by
  have hd := mdo_any w g h base cap ms A c hR D.big at_ hj 0 0 0 _ _ (.load 0 0)
  rw [hy] at hd
  have HD := Lib.hid hd
  have hb := decide_eq_true hc
  have HB := Lib.hid hb
  clear hR hj D hd hc hb hy
  go_enter Try.func53, Try.ntmps53
  go_wp2_with fail
  refine HD.out.mono ?_
  rintro e w1 ⟨rfl, g1, A1, c1, r1⟩
  have G1 := Lib.hid g1
  have R1 := Lib.hid r1
  clear g1 r1
  go_wp2_with (go_at_call 29; refine (counts_any _ _ _).mono ?_; rw [HB.out]; rintro e w2 ⟨rfl, b2⟩; have B2 := Lib.hid b2; clear b2)
  go_ret2
  exact ⟨rfl, G1.out.trans (Below.gb B2.out), A1, c1, R1.out.below B2.out⟩

theorem loadcount_no (hR : Rch w g h base cap ms A c) (D : Dq base cap ms) (at_ : Nat) (hj : base + at_ < ms.length) (least y : Int) (hy : nth ms (base + at_) = y) (hc : ¬ cntOk y least) :
    Calls Try.prog 53 #[.pointer (some ⟨g, 0, none⟩), .int .i64 at_, .int .i64 least] w (Met2 g (.int .i64 0) 9 h base cap ms w) := by
  have hd := mdo_any w g h base cap ms A c hR D.big at_ hj 0 0 0 _ _ (.load 0 0)
  rw [hy] at hd
  have HD := Lib.hid hd
  have hb := decide_eq_false hc
  have HB := Lib.hid hb
  clear hR hj D hd hc hb hy
  go_enter Try.func53, Try.ntmps53
  go_wp2_with fail
  refine HD.out.mono ?_
  rintro e w1 ⟨rfl, g1, A1, c1, r1⟩
  have G1 := Lib.hid g1
  have R1 := Lib.hid r1
  clear g1 r1
  go_wp2_with (go_at_call 29; refine (counts_any _ _ _).mono ?_; rw [HB.out]; rintro e w2 ⟨rfl, b2⟩; have B2 := Lib.hid b2; clear b2)
  go_ret2
  exact ⟨rfl, G1.out.trans (Below.gb B2.out), A1, c1, R1.out.below B2.out⟩

/-- A slot's number is loaded. -/
theorem loadslot_ok (hR : Rch w g h base cap ms A c) (D : Dq base cap ms) (n : Int) (hn : 0 ≤ n) :
    Calls Try.prog 56 #[.pointer (some ⟨g, 0, none⟩), .int .i64 n] w (Met g 0 { h with v := nth ms (slI base cap n) } base cap ms w) := by
  have c7 : _ = some (Value.int .i64 base) := hR.bk.cell 7
  have c8 : _ = some (Value.int .i64 cap) := hR.bk.cell 8
  have HR := Lib.hid hR
  have DD := Lib.hid D
  have hlt := hR.bk.lt
  have D1 := D.c1
  have D2 := D.c2
  obtain ⟨y, hy⟩ : ∃ y, nth ms (slI base cap n) = y := ⟨_, rfl⟩
  rw [hy]
  have HY := Lib.hid hy
  clear hR D hy
  go_enter Try.func56, Try.ntmps56
  go_wp2_with fail
  refine (slotat_any base cap n _ D1 D2 hn).mono ?_
  rintro e w1 ⟨rfl, b1⟩
  have R1 : Rch w1 g h base cap ms A c := ⟨HR.out.bk.below b1 HR.out.bk.lt, HR.out.ints.below b1, HR.out.ne⟩
  have hd := mdo_any w1 g h base cap ms A c R1 DD.out.big (slR cap n) (by have := slR_lt D1 hn; have := DD.out.len; omega) 0 0 0 _ _ (.load 0 0)
  rw [slR_add, HY.out] at hd
  have HD := Lib.hid hd
  have B1 := Lib.hid b1
  clear c7 c8 R1 hd b1
  go_wp2_with fail
  refine HD.out.mono ?_
  rintro e w2 ⟨rfl, g2, A2, c2, r2⟩
  have q2 : _ = some (Value.int .i64 h.v) := r2.bk.cell 2
  have f2 := r2.bk.frozen 2
  have hlt2 := r2.bk.lt
  have R3 := Lib.hid (r2.set (h' := { h with v := y }) 2 (.int .i64 y) rfl)
  have G3 := Lib.hid (((Below.gb B1.out).trans g2).trans (grown_set (w := w2) (g := g) (i := 2) (.int .i64 y)))
  clear g2 r2
  go_wp2
  go_ret
  exact ⟨rfl, G3.out, A2, c2, R3.out⟩

theorem loadslot_no (hR : Rch w g h base cap ms A c) (n : Int) (hn : n < 0) :
    Calls Try.prog 56 #[.pointer (some ⟨g, 0, none⟩), .int .i64 n] w (MetR g 9 h base cap ms w) := by
  have HR := Lib.hid hR
  clear hR
  go_enter Try.func56, Try.ntmps56
  go_wp2
  go_ret
  exact ⟨rfl, World.grownBy.refl _ _, A, c, HR.out⟩
end

end Go.Proofs.Ytfmiamjbhlglbaa

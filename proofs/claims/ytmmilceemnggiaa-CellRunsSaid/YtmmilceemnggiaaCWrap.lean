/-
  The contracts of cell.Load, Store, Cas and Add: each by itself is what Do does.
-/
import Derived.Test.YtmmilceemnggiaaCDo
namespace Go.Proofs.Ytmmilceemnggiaa
open Go.RowKit

theorem doo_big {zs : List Int} {k p a b : Int} (h : 65536 < zs.length) : doo zs k p a b = ([], 0, 1) := if_pos h
theorem doo_acc {zs : List Int} {k p a b : Int} (h : zs.length ≤ 65536) : doo zs k p a b = acc zs k p a b := if_neg (by omega)

theorem f0 : Fit 0 := by unfold Fit; omega

set_option maxHeartbeats 400000 in
theorem load_any (A : Option Addr) (n c : Nat) (zs : List Int) (p : Int) (w : World) (hx : Ints w A n zs) :
    Calls Try.prog 17 #[.slice A n c, .int .i64 p] w (LoadAns w (doo zs 0 p 0 0).2.1 (doo zs 0 p 0 0).2.2) := by
  have lx := hx.1
  have hm := hx.2.1
  by_cases hbig : 65536 < n
  · rw [doo_big (by omega)]
    clear hx lx
    go_enter Try.func17, Try.ntmps17
    go_wp2_with (go_at_call 14; refine (check_bad _ _ _ _ hbig (by omega)).mono ?_; rintro e w' ⟨rfl, rfl⟩)
    go_ret2
    exact ⟨rfl, Below.refl _ _⟩
  · have hle : n ≤ 65536 := by omega
    rw [doo_acc (by omega)]
    by_cases h : p < 0 ∨ (n : Int) ≤ p
    · rw [acc_out (by omega)]
      have H := Lib.hid h
      clear hx lx h hbig
      go_enter Try.func17, Try.ntmps17
      go_wp2_with (first | (go_at_call 14; refine (check_ok _ _ _ _ hle).mono ?_; rintro e w' ⟨rfl, rfl⟩) | (go_at_call 24; refine (access_out _ _ _ _ _ _ _ _ hm H.out).mono ?_; rintro e w' ⟨rfl, hb⟩; have HB := Lib.hid hb; clear hb))
      go_ret2
      exact ⟨rfl, HB.out⟩
    · obtain ⟨j, rfl⟩ : ∃ i : Nat, p = i := ⟨p.toNat, by omega⟩
      have hj : j < n := by omega
      rw [acc_load (by omega)]
      have HX := Lib.hid hx
      clear hx lx h hbig
      go_enter Try.func17, Try.ntmps17
      go_wp2_with (first | (go_at_call 14; refine (check_ok _ _ _ _ hle).mono ?_; rintro e w' ⟨rfl, rfl⟩) | (go_at_call 24; refine (access_load _ _ _ zs _ _ _ j hj HX.out).mono ?_; rintro e w' ⟨rfl, hb⟩; have HB := Lib.hid hb; clear hb))
      go_ret2
      exact ⟨rfl, HB.out⟩

/-- New cells and an error's number. -/
def NewI2 (zs : List Int) (y : Int) (w : World) (e : Ending) (w' : World) : Prop :=
  ∃ A c, e = .returned (.tuple #[.slice A zs.length c, .int .i64 y]) ∧ OwnI 2 w' w.heap.size A c zs ∧ Below w.heap.size w w'

/-- New cells, whether it was done, and an error's number. -/
def NewIB (zs : List Int) (b : Bool) (y : Int) (w : World) (e : Ending) (w' : World) : Prop :=
  ∃ A c, e = .returned (.tuple #[.slice A zs.length c, .bool b, .int .i64 y]) ∧ OwnI 2 w' w.heap.size A c zs ∧ Below w.heap.size w w'

set_option maxHeartbeats 400000 in
theorem store_any (A : Option Addr) (n c : Nat) (zs : List Int) (p a : Int) (w : World) (hx : Ints w A n zs) (fa : Fit a) :
    Calls Try.prog 18 #[.slice A n c, .int .i64 p, .int .i64 a] w (NewI2 (doo zs 1 p a 0).1 (doo zs 1 p a 0).2.2 w) := by
  have H := Lib.hid (do_any A n c zs 1 p a 0 w hx fa f0)
  clear hx fa
  generalize doo zs 1 p a 0 = r at H ⊢
  obtain ⟨cs, x, y⟩ := r
  go_enter Try.func18, Try.ntmps18
  go_wp2_with fail
  refine H.out.mono ?_
  rintro e w' ⟨A1, c1, rfl, ho, hb⟩
  have HO := Lib.hid ho
  have HB := Lib.hid hb
  clear ho hb
  simp only []
  go_wp2
  go_ret2
  exact ⟨A1, c1, rfl, HO.out, HB.out⟩

set_option maxHeartbeats 400000 in
theorem cas_any (A : Option Addr) (n c : Nat) (zs : List Int) (p a b : Int) (w : World) (hx : Ints w A n zs) (fa : Fit a) (fb : Fit b) :
    Calls Try.prog 19 #[.slice A n c, .int .i64 p, .int .i64 a, .int .i64 b] w (NewIB (doo zs 2 p a b).1 ((doo zs 2 p a b).2.1 == 1) (doo zs 2 p a b).2.2 w) := by
  have H := Lib.hid (do_any A n c zs 2 p a b w hx fa fb)
  clear hx fa fb
  generalize doo zs 2 p a b = r at H ⊢
  obtain ⟨cs, x, y⟩ := r
  go_enter Try.func19, Try.ntmps19
  go_wp2_with fail
  refine H.out.mono ?_
  rintro e w' ⟨A1, c1, rfl, ho, hb⟩
  have HO := Lib.hid ho
  have HB := Lib.hid hb
  clear ho hb
  simp only []
  go_wp2
  go_ret3
  exact ⟨A1, c1, rfl, HO.out, HB.out⟩

set_option maxHeartbeats 400000 in
theorem add_any (A : Option Addr) (n c : Nat) (zs : List Int) (p a : Int) (w : World) (hx : Ints w A n zs) (fa : Fit a) :
    Calls Try.prog 20 #[.slice A n c, .int .i64 p, .int .i64 a] w (NewI3 (doo zs 3 p a 0) w) := by
  have H := Lib.hid (do_any A n c zs 3 p a 0 w hx fa f0)
  clear hx fa
  generalize doo zs 3 p a 0 = r at H ⊢
  obtain ⟨cs, x, y⟩ := r
  go_enter Try.func20, Try.ntmps20
  go_wp2_with fail
  refine H.out.mono ?_
  rintro e w' ⟨A1, c1, rfl, ho, hb⟩
  have HO := Lib.hid ho
  have HB := Lib.hid hb
  clear ho hb
  simp only []
  go_wp2
  go_ret3
  exact ⟨A1, c1, rfl, HO.out, HB.out⟩

end Go.Proofs.Ytmmilceemnggiaa

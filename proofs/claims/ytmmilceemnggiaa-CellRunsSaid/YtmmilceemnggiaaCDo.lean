/-
  The contracts of cell.Do and of the document's Do: both come to 'doo'.
-/
import Derived.Test.YtmmilceemnggiaaCSlice
import Derived.Test.YtmmilceemnggiaaCAccess
namespace Go.Proofs.Ytmmilceemnggiaa
open Go.RowKit

theorem access_own (A : Option Addr) (c : Nat) (zs : List Int) (k p a b : Int) (w : World) (base : Nat) (n : Nat) (hn : n = zs.length) (hown : OwnI 2 w base A c zs) (fa : Fit a) (fb : Fit b) :
    Calls Try.prog 24 #[.slice A n c, .agg #[.int .i64 k, .int .i64 p, .int .i64 a, .int .i64 b]] w (AccAns w base A c (Value.slice A n c).ownBlock (acc zs k p a b)) := by
  have hm := hown.1
  by_cases h : p < 0 ∨ (zs.length : Int) ≤ p
  · refine (access_out A n c k p a b w (by omega) (by omega)).mono fun e w' ⟨he, hb⟩ => ?_
    exact AccAns.of (acc_out h) he (fun h => by cases h) ⟨hb.os, hb.tape, hb.output, hb.size, fun k hk _ => hb.block k hk⟩
  · obtain ⟨j, rfl⟩ : ∃ i : Nat, p = i := ⟨p.toNat, by omega⟩
    have hj : j < n := by omega
    obtain ⟨g, rfl, _, hlt, _⟩ := hown.form (by omega)
    by_cases k0 : k = 0
    · subst k0; exact access_load_own g c zs a b w base n hn j hj hown hlt
    by_cases k1 : k = 1
    · subst k1; exact access_store g c zs a b w base n hn j hj hown hlt fa
    by_cases k2 : k = 2
    · subst k2
      by_cases e : nth zs j = a
      · exact access_cas_yes g c zs a b w base n hn j hj hown hlt fb e
      · exact access_cas_no g c zs a b w base n hn j hj hown hlt e
    by_cases k3 : k = 3
    · subst k3
      by_cases e : Fit (nth zs j + a)
      · exact access_add_yes g c zs a b w base n hn j hj hown hlt fa e
      · exact access_add_no g c zs a b w base n hn j hj hown hlt fa e
    · exact access_other g c zs k a b w base n hn j hj hown hlt k0 k1 k2 k3

/-- What Do comes to. -/
def doo (zs : List Int) (k p a b : Int) : List Int × Int × Int := if 65536 < zs.length then ([], 0, 1) else acc zs k p a b

/-- What Do hands back: new cells, what is told, the error's number; what was there is as it was. -/
def NewI3 (r : List Int × Int × Int) (w : World) (e : Ending) (w' : World) : Prop :=
  ∃ A c, e = .returned (.tuple #[.slice A r.1.length c, .int .i64 r.2.1, .int .i64 r.2.2]) ∧ OwnI 2 w' w.heap.size A c r.1 ∧ Below w.heap.size w w'

theorem NewI3.none_ {r : List Int × Int × Int} {w : World} {e : Ending} {w' : World} {y : Int} (hr : r = ([], 0, y)) (he : e = .returned (.tuple #[.slice none 0 0, .int .i64 0, .int .i64 y])) (hb : Below w.heap.size w w') : NewI3 r w e w' := by
  subst hr
  exact ⟨none, 0, he, OwnI.nil_ _ _ _, hb⟩

theorem acc_bad {zs : List Int} {k p a b : Int} (h : (acc zs k p a b).2.2 ≠ 0) : (acc zs k p a b).1 = [] ∧ (acc zs k p a b).2.1 = 0 := by
  revert h
  unfold acc
  repeat' split
  all_goals simp

set_option maxHeartbeats 400000 in
theorem do_any (A : Option Addr) (n c : Nat) (zs : List Int) (k p a b : Int) (w : World) (hx : Ints w A n zs) (fa : Fit a) (fb : Fit b) :
    Calls Try.prog 9 #[.slice A n c, .agg #[.int .i64 k, .int .i64 p, .int .i64 a, .int .i64 b]] w (NewI3 (doo zs k p a b) w) := by
  have lx := hx.1
  have hm := hx.2.1
  by_cases hbig : 65536 < n
  · have hr : doo zs k p a b = ([], 0, 1) := if_pos (by omega)
    have HR := Lib.hid hr
    clear hr hx lx
    go_enter Try.func9, Try.ntmps9
    go_wp2_with (go_at_call 14; refine (check_bad _ _ _ _ hbig (by omega)).mono ?_; rintro e w' ⟨rfl, rfl⟩)
    go_ret3
    exact NewI3.none_ HR.out rfl ((Below.refl _ _).alloc (Nat.le_refl _) _)
  · have hr : doo zs k p a b = acc zs k p a b := if_neg (by omega)
    rw [hr]
    clear hr
    have HX := Lib.hid hx
    have FA := Lib.hid fa
    have FB := Lib.hid fb
    have hle : n ≤ 65536 := by omega
    have h0 := acc_bad (zs := zs) (k := k) (p := p) (a := a) (b := b)
    clear hx lx fa fb hbig
    generalize hr : acc zs k p a b = r at h0 ⊢
    obtain ⟨cs, x, y⟩ := r
    have HR := Lib.hid hr
    clear hr
    by_cases hy : y = 0
    · subst hy
      clear h0
      go_enter Try.func9, Try.ntmps9
      go_wp2_with (go_at_call 14; refine (check_ok _ _ _ _ hle).mono ?_; rintro e w' ⟨rfl, rfl⟩)
      refine (clone_any _ _ _ zs _ (HX.out.alloc _)).mono ?_
      rintro e w1 ⟨A1, c1, rfl, ho, hb⟩
      obtain ⟨hk, _⟩ := keepsB hb
      have HO := Lib.hid ho
      have HB := Lib.hid hb
      have hz : w.heap.size + 1 ≤ w1.heap.size := by have := hb.size; simpa using this
      clear ho hb
      go_wp2_with fail
      refine (access_own _ _ zs k p a b _ _ _ rfl HO.out FA.out FB.out).mono ?_
      rw [HR.out]
      rintro e w2 ⟨rfl, ho2, hg2⟩
      have HO2 := Lib.hid (ho2 rfl)
      have HG2 := Lib.hid hg2
      clear ho2 hg2
      simp only []
      go_wp2
      go_ret3
      have hl : cs.length = zs.length := by
        have h := acc_len (zs := zs) (k := k) (p := p) (a := a) (b := b)
        rw [HR.out] at h
        exact h rfl
      refine ⟨A1, c1, by rw [hl]; rfl, HO2.out.base (by simp), ?_⟩
      have hb1 : Below w.heap.size w w1 := ((Below.refl _ _).alloc (Nat.le_refl _) _).trans (HB.out.mono (by simp))
      refine hb1.grown HG2.out (by omega) fun i hi => ?_
      have := HO.out.block i hi
      simp at this
      omega
    · obtain ⟨rfl, rfl⟩ : cs = [] ∧ x = 0 := h0 hy
      have b0 : (y != 0) = true := by simpa using hy
      clear h0 hy
      go_enter Try.func9, Try.ntmps9
      go_wp2_with (go_at_call 14; refine (check_ok _ _ _ _ hle).mono ?_; rintro e w' ⟨rfl, rfl⟩)
      refine (clone_any _ _ _ zs _ (HX.out.alloc _)).mono ?_
      rintro e w1 ⟨A1, c1, rfl, ho, hb⟩
      obtain ⟨hk, _⟩ := keepsB hb
      have HO := Lib.hid ho
      have HB := Lib.hid hb
      have hz : w.heap.size + 1 ≤ w1.heap.size := by have := hb.size; simpa using this
      clear ho hb
      go_wp2_with fail
      refine (access_own _ _ zs k p a b _ _ _ rfl HO.out FA.out FB.out).mono ?_
      rw [HR.out]
      rintro e w2 ⟨rfl, _, hg2⟩
      have HG2 := Lib.hid hg2
      clear hg2
      simp only []
      go_wp2
      go_ret3
      refine NewI3.none_ rfl rfl ?_
      have hb1 : Below w.heap.size w w1 := ((Below.refl _ _).alloc (Nat.le_refl _) _).trans (HB.out.mono (by simp))
      refine hb1.grown HG2.out (by omega) fun i hi => ?_
      have := HO.out.block i hi
      simp at this
      omega

end Go.Proofs.Ytmmilceemnggiaa

/-
  The contract of cell.access: on a row of the caller's own it does just what 'acc' says.
-/
import Derived.Test.YtmmilceemnggiaaCSmall
import Derived.Test.YtmmilceemnggiaaCSpec
namespace Go.Proofs.Ytmmilceemnggiaa
open Go.RowKit

/-- What access hands back, and what it leaves of the row. -/
def AccAns (w : World) (base : Nat) (A : Option Addr) (c : Nat) (row : Option Nat) (r : List Int × Int × Int) (e : Ending) (w' : World) : Prop :=
  e = .returned (.tuple #[.int .i64 r.2.1, .int .i64 r.2.2]) ∧ (r.2.2 = 0 → OwnI 2 w' base A c r.1) ∧ w.grownBy w' row

theorem AccAns.of {w w' : World} {base : Nat} {A : Option Addr} {c : Nat} {row : Option Nat} {r : List Int × Int × Int} {e : Ending} {cs : List Int} {x y : Int} (hr : r = (cs, x, y)) (he : e = .returned (.tuple #[.int .i64 x, .int .i64 y]))
    (ho : y = 0 → OwnI 2 w' base A c cs) (hg : w.grownBy w' row) : AccAns w base A c row r e w' := by
  subst hr; exact ⟨he, ho, hg⟩

/-- What a load hands back: nothing that was there has changed. -/
def LoadAns (w : World) (x y : Int) (e : Ending) (w' : World) : Prop := e = .returned (.tuple #[.int .i64 x, .int .i64 y]) ∧ Below w.heap.size w w'

set_option maxHeartbeats 400000 in
theorem access_out (A : Option Addr) (n c : Nat) (k p a b : Int) (w : World) (_hm : n * 8 ≤ 140737488351232) (h : p < 0 ∨ (n : Int) ≤ p) :
    Calls Try.prog 24 #[.slice A n c, .agg #[.int .i64 k, .int .i64 p, .int .i64 a, .int .i64 b]] w (LoadAns w 0 1) := by
  rcases h with h | h
  · go_enter Try.func24, Try.ntmps24
    go_wp2
    go_ret2
    exact ⟨rfl, (Below.refl _ _).alloc (Nat.le_refl _) _⟩
  · have h0 : decide (p < 0) = false := by simp; omega
    have h1 : decide ((n : Int) ≤ p) = true := by simp; omega
    go_enter Try.func24, Try.ntmps24
    go_wp2
    go_ret2
    exact ⟨rfl, (Below.refl _ _).alloc (Nat.le_refl _) _⟩

set_option maxHeartbeats 400000 in
theorem access_load (A : Option Addr) (n c : Nat) (zs : List Int) (a b : Int) (w : World) (j : Nat) (hj : j < n) (hx : Ints w A n zs) :
    Calls Try.prog 24 #[.slice A n c, .agg #[.int .i64 0, .int .i64 j, .int .i64 a, .int .i64 b]] w (LoadAns w (nth zs j) 0) := by
  obtain ⟨lx, _hm, _, cx⟩ := hx
  obtain ⟨g, o, rfl, hlt, hcc⟩ := cx (by omega)
  have hc := hcc j hj
  clear hcc cx lx
  go_enter Try.func24, Try.ntmps24
  go_wp2
  go_ret2
  exact ⟨rfl, (Below.refl _ _).alloc (Nat.le_refl _) _⟩

set_option maxHeartbeats 400000 in
theorem access_load_own (g c : Nat) (zs : List Int) (a b : Int) (w : World) (base : Nat) (n : Nat) (hn : n = zs.length) (j : Nat) (hj : j < n) (hown : OwnI 2 w base (some ⟨g, 0, none⟩) c zs) (hlt : g < w.heap.size) :
    Calls Try.prog 24 #[.slice (some ⟨g, 0, none⟩) n c, .agg #[.int .i64 0, .int .i64 j, .int .i64 a, .int .i64 b]] w (AccAns w base (some ⟨g, 0, none⟩) c (some g) (acc zs 0 j a b)) := by
  have HR := Lib.hid (acc_load (a := a) (b := b) (hn ▸ hj))
  obtain ⟨hc, hf⟩ := hown.at_ (hn ▸ hj)
  have _hm := hown.1
  rw [← hn] at _hm
  have HO := Lib.hid hown
  have HN := Lib.hid hn
  clear hown hn
  go_enter Try.func24, Try.ntmps24
  go_wp2
  go_ret2
  exact AccAns.of HR.out rfl (fun _ => HO.out.below ((Below.refl _ _).alloc (Nat.le_refl _) _)) (World.grownBy_alloc _ _ _)

set_option maxHeartbeats 400000 in
theorem access_store (g c : Nat) (zs : List Int) (a b : Int) (w : World) (base : Nat) (n : Nat) (hn : n = zs.length) (j : Nat) (hj : j < n) (hown : OwnI 2 w base (some ⟨g, 0, none⟩) c zs) (hlt : g < w.heap.size) (fa : Fit a) :
    Calls Try.prog 24 #[.slice (some ⟨g, 0, none⟩) n c, .agg #[.int .i64 1, .int .i64 j, .int .i64 a, .int .i64 b]] w (AccAns w base (some ⟨g, 0, none⟩) c (some g) (acc zs 1 j a b)) := by
  have HR := Lib.hid (acc_store (a := a) (b := b) (hn ▸ hj))
  obtain ⟨hc, hf⟩ := hown.at_ (hn ▸ hj)
  have _hm := hown.1
  rw [← hn] at _hm
  have HO := Lib.hid hown
  have HN := Lib.hid hn
  have FA := Lib.hid fa
  clear fa
  clear hown hn
  go_enter Try.func24, Try.ntmps24
  go_wp2
  go_ret2
  exact AccAns.of HR.out rfl (fun _ => (HO.out.set_ j FA.out).below ((Below.refl _ _).alloc (Nat.le_refl _) _)) ((HO.out.2.2.stored j _).2.trans (World.grownBy_alloc _ _ _))

set_option maxHeartbeats 400000 in
theorem access_cas_yes (g c : Nat) (zs : List Int) (a b : Int) (w : World) (base : Nat) (n : Nat) (hn : n = zs.length) (j : Nat) (hj : j < n) (hown : OwnI 2 w base (some ⟨g, 0, none⟩) c zs) (hlt : g < w.heap.size) (fb : Fit b) (he : nth zs j = a) :
    Calls Try.prog 24 #[.slice (some ⟨g, 0, none⟩) n c, .agg #[.int .i64 2, .int .i64 j, .int .i64 a, .int .i64 b]] w (AccAns w base (some ⟨g, 0, none⟩) c (some g) (acc zs 2 j a b)) := by
  have HR := Lib.hid (acc_cas_yes (a := a) (b := b) (hn ▸ hj) he)
  obtain ⟨hc, hf⟩ := hown.at_ (hn ▸ hj)
  have _hm := hown.1
  rw [← hn] at _hm
  have HO := Lib.hid hown
  have HN := Lib.hid hn
  have FB := Lib.hid fb
  have h1 : (nth zs j != a) = false := by simp [he]
  clear fb he
  clear hown hn
  go_enter Try.func24, Try.ntmps24
  go_wp2
  go_ret2
  exact AccAns.of HR.out rfl (fun _ => (HO.out.set_ j FB.out).below ((Below.refl _ _).alloc (Nat.le_refl _) _)) ((HO.out.2.2.stored j _).2.trans (World.grownBy_alloc _ _ _))

set_option maxHeartbeats 400000 in
theorem access_cas_no (g c : Nat) (zs : List Int) (a b : Int) (w : World) (base : Nat) (n : Nat) (hn : n = zs.length) (j : Nat) (hj : j < n) (hown : OwnI 2 w base (some ⟨g, 0, none⟩) c zs) (hlt : g < w.heap.size) (he : nth zs j ≠ a) :
    Calls Try.prog 24 #[.slice (some ⟨g, 0, none⟩) n c, .agg #[.int .i64 2, .int .i64 j, .int .i64 a, .int .i64 b]] w (AccAns w base (some ⟨g, 0, none⟩) c (some g) (acc zs 2 j a b)) := by
  have HR := Lib.hid (acc_cas_no (a := a) (b := b) (hn ▸ hj) he)
  obtain ⟨hc, hf⟩ := hown.at_ (hn ▸ hj)
  have _hm := hown.1
  rw [← hn] at _hm
  have HO := Lib.hid hown
  have HN := Lib.hid hn
  have h1 : (nth zs j != a) = true := by simpa using he
  clear he
  clear hown hn
  go_enter Try.func24, Try.ntmps24
  go_wp2
  go_ret2
  exact AccAns.of HR.out rfl (fun _ => HO.out.below ((Below.refl _ _).alloc (Nat.le_refl _) _)) (World.grownBy_alloc _ _ _)

set_option maxHeartbeats 400000 in
theorem access_add_yes (g c : Nat) (zs : List Int) (a b : Int) (w : World) (base : Nat) (n : Nat) (hn : n = zs.length) (j : Nat) (hj : j < n) (hown : OwnI 2 w base (some ⟨g, 0, none⟩) c zs) (hlt : g < w.heap.size) (fa : Fit a) (he : Fit (nth zs j + a)) :
    Calls Try.prog 24 #[.slice (some ⟨g, 0, none⟩) n c, .agg #[.int .i64 3, .int .i64 j, .int .i64 a, .int .i64 b]] w (AccAns w base (some ⟨g, 0, none⟩) c (some g) (acc zs 3 j a b)) := by
  have HR := Lib.hid (acc_add_yes (a := a) (b := b) (hn ▸ hj) he)
  obtain ⟨hc, hf⟩ := hown.at_ (hn ▸ hj)
  have _hm := hown.1
  rw [← hn] at _hm
  have HO := Lib.hid hown
  have HN := Lib.hid hn
  have FN := Lib.hid (fit_nth hown.2.1 (hn ▸ hj))
  have FA := Lib.hid fa
  have FE := Lib.hid he
  obtain ⟨e1, e2⟩ := he
  clear fa
  clear hown hn
  go_enter Try.func24, Try.ntmps24
  go_wp2_with (go_at_call 29; refine (fits_yes _ _ _ FN.out FA.out FE.out).mono ?_; rintro e w' ⟨rfl, rfl⟩)
  go_ret2
  exact AccAns.of HR.out rfl (fun _ => (HO.out.set_ j FE.out).below ((Below.refl _ _).alloc (Nat.le_refl _) _)) ((HO.out.2.2.stored j _).2.trans (World.grownBy_alloc _ _ _))

set_option maxHeartbeats 400000 in
theorem access_add_no (g c : Nat) (zs : List Int) (a b : Int) (w : World) (base : Nat) (n : Nat) (hn : n = zs.length) (j : Nat) (hj : j < n) (hown : OwnI 2 w base (some ⟨g, 0, none⟩) c zs) (hlt : g < w.heap.size) (fa : Fit a) (he : ¬ Fit (nth zs j + a)) :
    Calls Try.prog 24 #[.slice (some ⟨g, 0, none⟩) n c, .agg #[.int .i64 3, .int .i64 j, .int .i64 a, .int .i64 b]] w (AccAns w base (some ⟨g, 0, none⟩) c (some g) (acc zs 3 j a b)) := by
  have HR := Lib.hid (acc_add_no (a := a) (b := b) (hn ▸ hj) he)
  obtain ⟨hc, hf⟩ := hown.at_ (hn ▸ hj)
  have _hm := hown.1
  rw [← hn] at _hm
  have HO := Lib.hid hown
  have HN := Lib.hid hn
  have FN := Lib.hid (fit_nth hown.2.1 (hn ▸ hj))
  have FA := Lib.hid fa
  have FE := Lib.hid he
  clear fa he
  clear hown hn
  go_enter Try.func24, Try.ntmps24
  go_wp2_with (go_at_call 29; refine (fits_no _ _ _ FN.out FA.out FE.out).mono ?_; rintro e w' ⟨rfl, rfl⟩)
  go_ret2
  exact AccAns.of HR.out rfl (fun h => by cases h) (World.grownBy_alloc _ _ _)

set_option maxHeartbeats 400000 in
theorem access_other (g c : Nat) (zs : List Int) (k a b : Int) (w : World) (base : Nat) (n : Nat) (hn : n = zs.length) (j : Nat) (hj : j < n) (hown : OwnI 2 w base (some ⟨g, 0, none⟩) c zs) (hlt : g < w.heap.size) (k0 : k ≠ 0) (k1 : k ≠ 1) (k2 : k ≠ 2) (k3 : k ≠ 3) :
    Calls Try.prog 24 #[.slice (some ⟨g, 0, none⟩) n c, .agg #[.int .i64 k, .int .i64 j, .int .i64 a, .int .i64 b]] w (AccAns w base (some ⟨g, 0, none⟩) c (some g) (acc zs k j a b)) := by
  have HR := Lib.hid (acc_other (a := a) (b := b) (hn ▸ hj) k0 k1 k2 k3)
  obtain ⟨hc, hf⟩ := hown.at_ (hn ▸ hj)
  have _hm := hown.1
  rw [← hn] at _hm
  have HO := Lib.hid hown
  have HN := Lib.hid hn
  have b0 : (k == 0) = false := by simpa using k0
  have b1 : (k == 1) = false := by simpa using k1
  have b2 : (k == 2) = false := by simpa using k2
  have b3 : (k == 3) = false := by simpa using k3
  clear k0 k1 k2 k3
  clear hown hn
  go_enter Try.func24, Try.ntmps24
  go_wp2
  go_ret2
  exact AccAns.of HR.out rfl (fun h => by cases h) (World.grownBy_alloc _ _ _)

end Go.Proofs.Ytmmilceemnggiaa

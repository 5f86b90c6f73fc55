/-
  The contract of the document's own Do (the reference of layer 1): it comes to 'doo', as cell.Do does.
-/
import Derived.Test.YtmmilceemnggiaaCDo
namespace Go.Proofs.Ytmmilceemnggiaa
open Go.RowKit

theorem set_same {zs : List Int} {j : Nat} (h : j < zs.length) : zs.set j (nth zs j) = zs := by
  rw [nth_get h]; simp

set_option maxHeartbeats 400000 in
theorem rdo_load (A : Option Addr) (n c : Nat) (zs : List Int) (a b : Int) (w : World) (hx : Ints w A n zs) (hle : n ≤ 65536) (j : Nat) (hj : j < n) :
    Calls Try.prog 10 #[.slice A n c, .agg #[.int .i64 0, .int .i64 j, .int .i64 a, .int .i64 b]] w (NewI3 (acc zs 0 j a b) w) := by
  have HR := Lib.hid (acc_load (zs := zs) (j := j) (a := a) (b := b) (by rw [hx.1]; exact hj))
  have HX := Lib.hid hx
  have FX := Lib.hid (fit_nth (j := j) hx.2.2.1 (by rw [hx.1]; exact hj))
  have hm := hx.2.1
  obtain ⟨g, o, rfl, hlt, hcc⟩ := hx.2.2.2 (by omega)
  have hc := hcc j hj
  clear hcc hx
  have HS := Lib.hid (set_same (zs := zs) (j := j) (by rw [HX.out.1]; exact hj))
  go_enter Try.func10, Try.ntmps10
  go_wp2_with (first | (go_at_call 25; refine (place_yes _ _ _ _ _ hle (by omega) (by omega)).mono ?_; rintro e w' ⟨rfl, rfl⟩) | (go_at_call 26; refine (with_any _ _ _ zs _ (HX.out.alloc _) j hj (nth zs j) FX.out).mono ?_; rintro e w1 ⟨A1, c1, rfl, ho, hb⟩; have HO := Lib.hid ho; have HB := Lib.hid hb; clear ho hb); rw [HS.out] at *)
  go_ret3
  rw [HR.out]
  exact ⟨A1, c1, (by first | rfl | (simp only [List.length_set]; rfl)), HO.out.base (by simp), ((Below.refl _ _).alloc (Nat.le_refl _) _).trans (HB.out.mono (by simp))⟩

set_option maxHeartbeats 400000 in
theorem rdo_store (A : Option Addr) (n c : Nat) (zs : List Int) (a b : Int) (w : World) (hx : Ints w A n zs) (hle : n ≤ 65536) (j : Nat) (hj : j < n) (fa : Fit a) :
    Calls Try.prog 10 #[.slice A n c, .agg #[.int .i64 1, .int .i64 j, .int .i64 a, .int .i64 b]] w (NewI3 (acc zs 1 j a b) w) := by
  have HR := Lib.hid (acc_store (zs := zs) (j := j) (a := a) (b := b) (by rw [hx.1]; exact hj))
  have HX := Lib.hid hx
  have FX := Lib.hid (fit_nth (j := j) hx.2.2.1 (by rw [hx.1]; exact hj))
  have hm := hx.2.1
  obtain ⟨g, o, rfl, hlt, hcc⟩ := hx.2.2.2 (by omega)
  have hc := hcc j hj
  clear hcc hx
  have FA := Lib.hid fa
  clear fa
  go_enter Try.func10, Try.ntmps10
  go_wp2_with (first | (go_at_call 25; refine (place_yes _ _ _ _ _ hle (by omega) (by omega)).mono ?_; rintro e w' ⟨rfl, rfl⟩) | (go_at_call 26; refine (with_any _ _ _ zs _ (HX.out.alloc _) j hj a FA.out).mono ?_; rintro e w1 ⟨A1, c1, rfl, ho, hb⟩; have HO := Lib.hid ho; have HB := Lib.hid hb; clear ho hb))
  go_ret3
  rw [HR.out]
  exact ⟨A1, c1, (by first | rfl | (simp only [List.length_set]; rfl)), HO.out.base (by simp), ((Below.refl _ _).alloc (Nat.le_refl _) _).trans (HB.out.mono (by simp))⟩

set_option maxHeartbeats 400000 in
theorem rdo_cas_yes (A : Option Addr) (n c : Nat) (zs : List Int) (a b : Int) (w : World) (hx : Ints w A n zs) (hle : n ≤ 65536) (j : Nat) (hj : j < n) (fb : Fit b) (he : nth zs j = a) :
    Calls Try.prog 10 #[.slice A n c, .agg #[.int .i64 2, .int .i64 j, .int .i64 a, .int .i64 b]] w (NewI3 (acc zs 2 j a b) w) := by
  have HR := Lib.hid (acc_cas_yes (zs := zs) (j := j) (a := a) (b := b) (by rw [hx.1]; exact hj) he)
  have HX := Lib.hid hx
  have FX := Lib.hid (fit_nth (j := j) hx.2.2.1 (by rw [hx.1]; exact hj))
  have hm := hx.2.1
  obtain ⟨g, o, rfl, hlt, hcc⟩ := hx.2.2.2 (by omega)
  have hc := hcc j hj
  clear hcc hx
  have FB := Lib.hid fb
  have h1 : (nth zs j != a) = false := by simp [he]
  clear fb he
  go_enter Try.func10, Try.ntmps10
  go_wp2_with (first | (go_at_call 25; refine (place_yes _ _ _ _ _ hle (by omega) (by omega)).mono ?_; rintro e w' ⟨rfl, rfl⟩) | (go_at_call 26; refine (with_any _ _ _ zs _ (HX.out.alloc _) j hj b FB.out).mono ?_; rintro e w1 ⟨A1, c1, rfl, ho, hb⟩; have HO := Lib.hid ho; have HB := Lib.hid hb; clear ho hb))
  go_ret3
  rw [HR.out]
  exact ⟨A1, c1, (by first | rfl | (simp only [List.length_set]; rfl)), HO.out.base (by simp), ((Below.refl _ _).alloc (Nat.le_refl _) _).trans (HB.out.mono (by simp))⟩

set_option maxHeartbeats 400000 in
theorem rdo_cas_no (A : Option Addr) (n c : Nat) (zs : List Int) (a b : Int) (w : World) (hx : Ints w A n zs) (hle : n ≤ 65536) (j : Nat) (hj : j < n) (he : nth zs j ≠ a) :
    Calls Try.prog 10 #[.slice A n c, .agg #[.int .i64 2, .int .i64 j, .int .i64 a, .int .i64 b]] w (NewI3 (acc zs 2 j a b) w) := by
  have HR := Lib.hid (acc_cas_no (zs := zs) (j := j) (a := a) (b := b) (by rw [hx.1]; exact hj) he)
  have HX := Lib.hid hx
  have FX := Lib.hid (fit_nth (j := j) hx.2.2.1 (by rw [hx.1]; exact hj))
  have hm := hx.2.1
  obtain ⟨g, o, rfl, hlt, hcc⟩ := hx.2.2.2 (by omega)
  have hc := hcc j hj
  clear hcc hx
  have HS := Lib.hid (set_same (zs := zs) (j := j) (by rw [HX.out.1]; exact hj))
  have h1 : (nth zs j != a) = true := by simpa using he
  clear he
  go_enter Try.func10, Try.ntmps10
  go_wp2_with (first | (go_at_call 25; refine (place_yes _ _ _ _ _ hle (by omega) (by omega)).mono ?_; rintro e w' ⟨rfl, rfl⟩) | (go_at_call 26; refine (with_any _ _ _ zs _ (HX.out.alloc _) j hj (nth zs j) FX.out).mono ?_; rintro e w1 ⟨A1, c1, rfl, ho, hb⟩; have HO := Lib.hid ho; have HB := Lib.hid hb; clear ho hb); rw [HS.out] at *)
  go_ret3
  rw [HR.out]
  exact ⟨A1, c1, (by first | rfl | (simp only [List.length_set]; rfl)), HO.out.base (by simp), ((Below.refl _ _).alloc (Nat.le_refl _) _).trans (HB.out.mono (by simp))⟩

set_option maxHeartbeats 400000 in
theorem rdo_add_yes (A : Option Addr) (n c : Nat) (zs : List Int) (a b : Int) (w : World) (hx : Ints w A n zs) (hle : n ≤ 65536) (j : Nat) (hj : j < n) (fa : Fit a) (he : Fit (nth zs j + a)) :
    Calls Try.prog 10 #[.slice A n c, .agg #[.int .i64 3, .int .i64 j, .int .i64 a, .int .i64 b]] w (NewI3 (acc zs 3 j a b) w) := by
  have HR := Lib.hid (acc_add_yes (zs := zs) (j := j) (a := a) (b := b) (by rw [hx.1]; exact hj) he)
  have HX := Lib.hid hx
  have FX := Lib.hid (fit_nth (j := j) hx.2.2.1 (by rw [hx.1]; exact hj))
  have hm := hx.2.1
  obtain ⟨g, o, rfl, hlt, hcc⟩ := hx.2.2.2 (by omega)
  have hc := hcc j hj
  clear hcc hx
  have FA := Lib.hid fa
  have FE := Lib.hid he
  clear fa he
  go_enter Try.func10, Try.ntmps10
  go_wp2_with (first | (go_at_call 25; refine (place_yes _ _ _ _ _ hle (by omega) (by omega)).mono ?_; rintro e w' ⟨rfl, rfl⟩) | (go_at_call 27; refine (sum_yes _ _ _ FX.out FA.out FE.out).mono ?_; rintro e w' ⟨rfl, rfl⟩) | (go_at_call 26; refine (with_any _ _ _ zs _ (HX.out.alloc _) j hj (nth zs j + a) FE.out).mono ?_; rintro e w1 ⟨A1, c1, rfl, ho, hb⟩; have HO := Lib.hid ho; have HB := Lib.hid hb; clear ho hb))
  go_ret3
  rw [HR.out]
  exact ⟨A1, c1, (by first | rfl | (simp only [List.length_set]; rfl)), HO.out.base (by simp), ((Below.refl _ _).alloc (Nat.le_refl _) _).trans (HB.out.mono (by simp))⟩

set_option maxHeartbeats 400000 in
theorem rdo_add_no (A : Option Addr) (n c : Nat) (zs : List Int) (a b : Int) (w : World) (hx : Ints w A n zs) (hle : n ≤ 65536) (j : Nat) (hj : j < n) (fa : Fit a) (he : ¬ Fit (nth zs j + a)) :
    Calls Try.prog 10 #[.slice A n c, .agg #[.int .i64 3, .int .i64 j, .int .i64 a, .int .i64 b]] w (NewI3 (acc zs 3 j a b) w) := by
  have HR := Lib.hid (acc_add_no (zs := zs) (j := j) (a := a) (b := b) (by rw [hx.1]; exact hj) he)
  have HX := Lib.hid hx
  have FX := Lib.hid (fit_nth (j := j) hx.2.2.1 (by rw [hx.1]; exact hj))
  have hm := hx.2.1
  obtain ⟨g, o, rfl, hlt, hcc⟩ := hx.2.2.2 (by omega)
  have hc := hcc j hj
  clear hcc hx
  have FA := Lib.hid fa
  have FE := Lib.hid he
  clear fa he
  go_enter Try.func10, Try.ntmps10
  go_wp2_with (first | (go_at_call 25; refine (place_yes _ _ _ _ _ hle (by omega) (by omega)).mono ?_; rintro e w' ⟨rfl, rfl⟩) | (go_at_call 27; refine (sum_no _ _ _ FX.out FA.out FE.out).mono ?_; rintro e w' ⟨rfl, rfl⟩))
  go_ret3
  exact NewI3.none_ HR.out rfl ((Below.refl _ _).alloc (Nat.le_refl _) _)

set_option maxHeartbeats 400000 in
theorem rdo_small (A : Option Addr) (n c : Nat) (zs : List Int) (k a b : Int) (w : World) (hx : Ints w A n zs) (hle : n ≤ 65536) (j : Nat) (hj : j < n) (hk : k < 0) :
    Calls Try.prog 10 #[.slice A n c, .agg #[.int .i64 k, .int .i64 j, .int .i64 a, .int .i64 b]] w (NewI3 (acc zs k j a b) w) := by
  have HR := Lib.hid (acc_other (k := k) (zs := zs) (j := j) (a := a) (b := b) (by rw [hx.1]; exact hj) (by omega) (by omega) (by omega) (by omega))
  have HX := Lib.hid hx
  have FX := Lib.hid (fit_nth (j := j) hx.2.2.1 (by rw [hx.1]; exact hj))
  have hm := hx.2.1
  obtain ⟨g, o, rfl, hlt, hcc⟩ := hx.2.2.2 (by omega)
  have hc := hcc j hj
  clear hcc hx
  have h1 : decide (k < 0) = true := by simpa using hk
  go_enter Try.func10, Try.ntmps10
  go_wp2_with (first | (go_at_call 25; refine (place_yes _ _ _ _ _ hle (by omega) (by omega)).mono ?_; rintro e w' ⟨rfl, rfl⟩))
  go_ret3
  exact NewI3.none_ HR.out rfl ((Below.refl _ _).alloc (Nat.le_refl _) _)

set_option maxHeartbeats 400000 in
theorem rdo_great (A : Option Addr) (n c : Nat) (zs : List Int) (k a b : Int) (w : World) (hx : Ints w A n zs) (hle : n ≤ 65536) (j : Nat) (hj : j < n) (hk : 3 < k) :
    Calls Try.prog 10 #[.slice A n c, .agg #[.int .i64 k, .int .i64 j, .int .i64 a, .int .i64 b]] w (NewI3 (acc zs k j a b) w) := by
  have HR := Lib.hid (acc_other (k := k) (zs := zs) (j := j) (a := a) (b := b) (by rw [hx.1]; exact hj) (by omega) (by omega) (by omega) (by omega))
  have HX := Lib.hid hx
  have FX := Lib.hid (fit_nth (j := j) hx.2.2.1 (by rw [hx.1]; exact hj))
  have hm := hx.2.1
  obtain ⟨g, o, rfl, hlt, hcc⟩ := hx.2.2.2 (by omega)
  have hc := hcc j hj
  clear hcc hx
  have h1 : decide (k < 0) = false := by simp; omega
  have h2 : decide (3 < k) = true := by simpa using hk
  go_enter Try.func10, Try.ntmps10
  go_wp2_with (first | (go_at_call 25; refine (place_yes _ _ _ _ _ hle (by omega) (by omega)).mono ?_; rintro e w' ⟨rfl, rfl⟩))
  go_ret3
  exact NewI3.none_ HR.out rfl ((Below.refl _ _).alloc (Nat.le_refl _) _)

set_option maxHeartbeats 400000 in
theorem rdo_any (A : Option Addr) (n c : Nat) (zs : List Int) (k p a b : Int) (w : World) (hx : Ints w A n zs) (fa : Fit a) (fb : Fit b) :
    Calls Try.prog 10 #[.slice A n c, .agg #[.int .i64 k, .int .i64 p, .int .i64 a, .int .i64 b]] w (NewI3 (doo zs k p a b) w) := by
  have lx := hx.1
  have hm := hx.2.1
  by_cases hbig : 65536 < n
  · have hr : doo zs k p a b = ([], 0, 1) := if_pos (by omega)
    have HR := Lib.hid hr
    clear hr hx lx
    go_enter Try.func10, Try.ntmps10
    go_wp2_with (go_at_call 25; refine (place_big _ _ _ _ _ hbig (by omega)).mono ?_; rintro e w' ⟨rfl, rfl⟩)
    go_ret3
    exact NewI3.none_ HR.out rfl ((Below.refl _ _).alloc (Nat.le_refl _) _)
  · have hr : doo zs k p a b = acc zs k p a b := if_neg (by omega)
    rw [hr]
    clear hr
    have hle : n ≤ 65536 := by omega
    by_cases h : p < 0 ∨ (n : Int) ≤ p
    · have HR := Lib.hid (acc_out (zs := zs) (k := k) (p := p) (a := a) (b := b) (by omega))
      have H := Lib.hid h
      clear hx lx h hbig
      go_enter Try.func10, Try.ntmps10
      go_wp2_with (go_at_call 25; refine (place_no _ _ _ _ _ hle H.out).mono ?_; rintro e w' ⟨rfl, rfl⟩)
      go_ret3
      exact NewI3.none_ HR.out rfl ((Below.refl _ _).alloc (Nat.le_refl _) _)
    · obtain ⟨j, rfl⟩ : ∃ i : Nat, p = i := ⟨p.toNat, by omega⟩
      have hj : j < n := by omega
      by_cases k0 : k = 0
      · subst k0; exact rdo_load A n c zs a b w hx hle j hj
      by_cases k1 : k = 1
      · subst k1; exact rdo_store A n c zs a b w hx hle j hj fa
      by_cases k2 : k = 2
      · subst k2
        by_cases e : nth zs j = a
        · exact rdo_cas_yes A n c zs a b w hx hle j hj fb e
        · exact rdo_cas_no A n c zs a b w hx hle j hj e
      by_cases k3 : k = 3
      · subst k3
        by_cases e : Fit (nth zs j + a)
        · exact rdo_add_yes A n c zs a b w hx hle j hj fa e
        · exact rdo_add_no A n c zs a b w hx hle j hj fa e
      · by_cases kn : k < 0
        · exact rdo_small A n c zs k a b w hx hle j hj kn
        · exact rdo_great A n c zs k a b w hx hle j hj (by omega)

end Go.Proofs.Ytmmilceemnggiaa

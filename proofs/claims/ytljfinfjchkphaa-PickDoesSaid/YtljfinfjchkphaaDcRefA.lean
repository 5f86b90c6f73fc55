/-
  The document's answer of layer 3: the contracts of Check, Same, Draw and Below.
-/
import Derived.Test.YtljfinfjchkphaaDcSame
namespace Go.Proofs.Ytljfinfjchkphaa
open Go.RowKit

theorem rcheck_ok (A : Option Addr) (n c : Nat) (p : Int) (w : World) (h0 : 0 ≤ p) (h1 : p ≤ n) :
    Calls Try.prog 24 #[.agg #[.slice A n c, .int .i64 p]] w (RetB (.int .i64 0) w) := by
  go_enter Try.func24, Try.ntmps24
  go_wp2
  go_ret
  exact RetB.of rfl ((Below.refl _ _).alloc (Nat.le_refl _) _)

theorem rcheck_no (A : Option Addr) (n c : Nat) (p : Int) (w : World) (h : p < 0 ∨ (n : Int) < p) (hn : n ≤ 140737488351232) :
    Calls Try.prog 24 #[.agg #[.slice A n c, .int .i64 p]] w (RetB (.int .i64 1) w) := by
  rcases h with h | h
  all_goals
    go_enter Try.func24, Try.ntmps24
    go_wp2
    go_ret
    exact RetB.of rfl ((Below.refl _ _).alloc (Nat.le_refl _) _)

set_option maxHeartbeats 800000 in
theorem rsame_any (A B : Option Addr) (n m c d : Nat) (p q : Int) (xs ys : List Int) (w : World) (hx : Octs w A n xs) (hy : Octs w B m ys) :
    Calls Try.prog 20 #[.agg #[.slice A n c, .int .i64 p], .agg #[.slice B m d, .int .i64 q]] w (RetB (.bool (dsame p q xs ys)) w) := by
  have hb := ((Below.refl w.heap.size w).alloc (Nat.le_refl _) (.cells #[.slice A n c, .int .i64 p] 24)).alloc (by simp) (.cells #[.slice B m d, .int .i64 q] 24)
  have h1 := (hx.below hb).convert (P := Try.prog) c 22 5 9 Try.underlying22 Try.underlying5 Try.underlying9
  have h2 := (hy.below hb).convert (P := Try.prog) d 22 5 9 Try.underlying22 Try.underlying5 Try.underlying9
  have hs := str_same hx.2.2.1 hy.2.2.1
  have HB := Lib.hid hb
  clear hx hy hb
  by_cases h : sameB xs ys = true
  · rw [h] at hs
    have HS : Hid (dsame p q xs ys = (p == q)) := Lib.hid (by unfold dsame; rw [h, Bool.and_true]; exact Bool.eq_iff_iff.2 (by simp))
    clear h
    go_enter Try.func20, Try.ntmps20
    go_wp2
    go_ret
    exact RetB.of (ret_bool HS.out.symm) HB.out
  · have h : sameB xs ys = false := by simpa using h
    rw [h] at hs
    have HS : Hid (dsame p q xs ys = false) := Lib.hid (by unfold dsame; rw [h, Bool.and_false])
    clear h
    go_enter Try.func20, Try.ntmps20
    go_wp2
    go_ret
    exact RetB.of (ret_bool HS.out.symm) HB.out

/-- The number of so many octets. -/
def part (bs : List Int) (p : Nat) : Nat → Int
  | 0 => 0
  | k + 1 => 256 * part bs p k + nth bs (p + k)

theorem part_two (bs : List Int) (p : Nat) : part bs p 2 = drawAt bs p := by
  unfold part part part drawAt
  simp

theorem part_bd {bs : List Int} (h : ∀ j, Oct (nth bs j)) (p : Nat) : ∀ k, k ≤ 2 → 0 ≤ part bs p k ∧ part bs p k ≤ 100000
  | 0, _ => by unfold part; omega
  | 1, _ => by
    have := h (p + 0)
    unfold Oct at this
    unfold part part
    omega
  | 2, _ => by
    have h1 := h (p + 0)
    have h2 := h (p + 1)
    unfold Oct at h1 h2
    unfold part part part
    omega

/-- A number, and dice, are handed back. -/
def PairD (k : Int) (bs : List Int) (p : Nat) (w : World) (e : Ending) (w' : World) : Prop :=
  ∃ A c, e = .returned (.tuple #[.int .i64 k, .agg #[.slice A bs.length c, .int .i64 (p : Int)]]) ∧ OwnO 5 w' w.heap.size A c bs ∧ Below w.heap.size w w'

set_option maxHeartbeats 1000000 in
theorem rdraw_any (A : Option Addr) (N c p : Nat) (bs : List Int) (w : World) (ho : Octs w A N bs) (hp : p ≤ N) (hN : N ≤ 1000) :
    Calls Try.prog 48 #[.agg #[.slice A N c, .int .i64 (p : Int)]] w (PairD (drawAt bs p) bs (min (p + 2) N) w) := by
  obtain ⟨k1, k3, b0⟩ := lies2 w #[.slice A N c, .int .i64 (p : Int)] #[.slice none 0 0, .int .i64 0] 24 24
  have q0 := k1.c0
  have q1 := k1.c1
  have HO := Lib.hid (ho.below b0)
  have HC := Lib.hid (part_bd ho.oct p)
  have OC := Lib.hid ho.oct
  have B0 := Lib.hid b0
  have K3 := Lib.hid k3
  clear ho k1 k3 b0
  go_enter Try.func48, Try.ntmps48
  go_wp2
  go_loop [4, 5, 8] (fun s a t => ∃ (k q : Nat) (z : Int), k ≤ 2 ∧ t = .int .i64 k ∧ a = .int .i64 q ∧ s = .int .i64 z ∧ q ≤ N ∧ 0 ≤ z ∧ z ≤ 100000 ∧ Hid (z = part bs p k) ∧ Hid (q = min (p + k) N)) (fun _ _ t => 2 - (intOf t).toNat)
  case atStart => exact ⟨0, p, 0, by omega, rfl, rfl, rfl, hp, by omega, by omega, Lib.hid rfl, Lib.hid (by omega)⟩
  case round =>
    obtain ⟨k, q, z, hk, rfl, rfl, rfl, hq, z0, z1, HZ, HQ⟩ := hrel
    by_cases hlt : k < 2
    · have hz2 : 256 * z + nth bs (p + k) = part bs p (k + 1) := by rw [HZ.out, part]
      have hb2 := HC.out (k + 1) (by omega)
      rw [← hz2] at hb2
      have HZ2 := Lib.hid hz2
      obtain ⟨b20, b21⟩ := hb2
      have ho2 := OC.out (p + k)
      unfold Oct at ho2
      obtain ⟨o20, o21⟩ := ho2
      clear hz2
      by_cases hqn : q < N
      · have hqe : q = p + k := by have := HQ.out; omega
        obtain ⟨-, -, -, hc⟩ := HO.out
        obtain ⟨bb, o, rfl, -, hcell⟩ := hc (by omega)
        have c1 := hcell q hqn
        rw [hqe] at c1
        have HQ2 : Hid (p + k + 1 = min (p + (k + 1)) N) := Lib.hid (by omega)
        subst hqe
        clear hcell hc
        go_wp2
        go_round
        case rel => exact ⟨k + 1, p + k + 1, 256 * z + nth bs (p + k), by omega, by go_num, by go_num, rfl, by omega, b20, b21, HZ2, HQ2⟩
        case measure => simp [intOf]; omega
      · have hz0 : nth bs (p + k) = 0 := nth_beyond (by have := HO.out.1; have := HQ.out; omega)
        rw [hz0] at HZ2 b20 b21
        have HQ2 : Hid (q = min (p + (k + 1)) N) := Lib.hid (by have := HQ.out; omega)
        have HZ3 : Hid (256 * z = part bs p (k + 1)) := Lib.hid (by rw [← HZ2.out]; omega)
        clear hz0 o20 o21 HZ2
        go_wp2
        go_round
        case rel => exact ⟨k + 1, q, 256 * z, by omega, by go_num, rfl, rfl, hq, by omega, by omega, HZ3, HQ2⟩
        case measure => simp [intOf]; omega
    · have hk2 : k = 2 := by omega
      subst hk2
      have HZ2 : Hid (z = drawAt bs p) := Lib.hid (by rw [HZ.out, part_two])
      go_wp2_with (at_builtin; refine wpList_append_octs _ rfl _ _ 22 rfl 5 Try.underlying22 Try.octetInfo (w.heap.size + 1 + 1) none 0 [] 0 rfl rfl (OwnO.nil_ _ _ _) A N c bs rfl HO.out (by simp; omega) (by simp) ?_; intro X2 d2 w2 hown2 hg2; simp only [List.nil_append] at hown2 ⊢; have P2 := Lib.hid hown2; have G2 := Lib.hid hg2; have k5 := K3.out.grown hg2 (by simp [Value.ownBlock]); have r0 := k5.c0; have r1 := k5.c1; have f0 := k5.frozen 0; have f1 := k5.frozen 1; clear hown2 hg2 k5)
      have HB := Lib.hid (((B0.out.grown G2.out B0.out.size (by simp [Value.ownBlock])).setCell (p := ⟨w.heap.size + 1, 0, none⟩) (by simp) (.slice X2 bs.length d2)).setCell (p := ⟨w.heap.size + 1, 1, none⟩) (by simp) (.int .i64 (q : Int)))
      have HN := Lib.hid (((P2.out.far (p := ⟨w.heap.size + 1, 0, none⟩) (by simp) (.slice X2 bs.length d2)).far (p := ⟨w.heap.size + 1, 1, none⟩) (by simp) (.int .i64 (q : Int))).base (base' := w.heap.size) (by omega))
      exact bodyPost_ret (v := .tuple #[.int .i64 z, .agg #[.slice X2 bs.length d2, .int .i64 (q : Int)]]) (by simp [results, Try.results48, go_sem, *]) rfl ⟨X2, d2, by rw [← HZ2.out, ← HQ.out], HN.out, HB.out⟩

end Go.Proofs.Ytljfinfjchkphaa

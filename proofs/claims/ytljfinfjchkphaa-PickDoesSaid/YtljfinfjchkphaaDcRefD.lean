/-
  The document's answer of layer 3: the contract of Heavy.
-/
import Derived.Test.YtljfinfjchkphaaDcRefC
import Derived.Test.YtljfinfjchkphaaDcHeavy
namespace Go.Proofs.Ytljfinfjchkphaa
open Go.RowKit

/-- What Heavy answers, of dice that may be. -/
def HvAns (ws bs : List Int) (p N : Nat) (w : World) (e : Ending) (w' : World) : Prop :=
  (weightE ws = 0 → TripD (.int .i64 (pick ws (drawAt bs p % ws.sum))) bs (min (p + 2) N : Nat) 0 w e w') ∧ (weightE ws ≠ 0 → TripD (.int .i64 0) [] 0 (weightE ws) w e w')

theorem HvAns.no {ws bs : List Int} {p N : Nat} {E : Int} {w w' : World} (hE : weightE ws = E) (h0 : E ≠ 0) (hb : Below w.heap.size w w') : HvAns ws bs p N w (.returned (.tuple #[.int .i64 0, .agg #[.slice none 0 0, .int .i64 0], .int .i64 E])) w' :=
  ⟨fun h => absurd (hE.symm.trans h) h0, fun _ => by rw [hE]; exact trip_none hb⟩

set_option maxHeartbeats 1000000 in
theorem rheavy_dice (A B : Option Addr) (n c m d : Nat) (p : Int) (w : World) (hn : n ≤ 140737488351232) (h : p < 0 ∨ (n : Int) < p) :
    Calls Try.prog 34 #[.agg #[.slice A n c, .int .i64 p], .slice B m d] w (TripD (.int .i64 0) [] 0 1 w) := by
  obtain ⟨k2, k5, b0⟩ := lies2 w #[.slice A n c, .int .i64 p] #[.slice none 0 0, .int .i64 0] 24 24
  go_enter Try.func34, Try.ntmps34
  go_wp2_with fail
  refine (rcheck_no A n c p _ h hn).mono ?_
  rintro e w1 ⟨rfl, hb1⟩
  have k51 := k5.below hb1 k5.lt
  have b1 := Lib.hid (below3 b0 hb1)
  have q0 := k51.c0
  have q1 := k51.c1
  have f0 := k51.frozen 0
  have f1 := k51.frozen 1
  clear hb1 k2 k5 b0 k51
  have HB := Lib.hid ((b1.out.setCell (p := ⟨w.heap.size + 1, 0, none⟩) (by simp) (.slice none 0 0)).setCell (p := ⟨w.heap.size + 1, 1, none⟩) (by simp) (.int .i64 0))
  go_wp2
  exact bodyPost_ret (v := .tuple #[.int .i64 0, .agg #[.slice none 0 0, .int .i64 0], .int .i64 1]) (by simp [results, Try.results34, go_sem, *]) rfl (trip_none HB.out)

set_option maxHeartbeats 1000000 in
theorem rheavy_len (A B : Option Addr) (n c m d p N : Nat) (bs ws : List Int) (w : World) (hp : p ≤ n) (hw : Ints w B m ws) (hm : 256 < m) :
    Calls Try.prog 34 #[.agg #[.slice A n c, .int .i64 (p : Int)], .slice B m d] w (HvAns ws bs p N w) := by
  obtain ⟨k2, k5, b0⟩ := lies2 w #[.slice A n c, .int .i64 (p : Int)] #[.slice none 0 0, .int .i64 0] 24 24
  have HE := Lib.hid (weightE_len (ws := ws) (by rw [hw.1]; exact hm))
  have hm2 := hw.2.1
  clear hw
  go_enter Try.func34, Try.ntmps34
  go_wp2_with fail
  refine (rcheck_ok A n c p _ (by omega) (by omega)).mono ?_
  rintro e w1 ⟨rfl, hb1⟩
  have k51 := k5.below hb1 k5.lt
  have b1 := Lib.hid (below3 b0 hb1)
  have q0 := k51.c0
  have q1 := k51.c1
  have f0 := k51.frozen 0
  have f1 := k51.frozen 1
  clear hb1 k2 k5 b0 k51
  have HB := Lib.hid ((b1.out.setCell (p := ⟨w.heap.size + 1, 0, none⟩) (by simp) (.slice none 0 0)).setCell (p := ⟨w.heap.size + 1, 1, none⟩) (by simp) (.int .i64 0))
  go_wp2
  exact bodyPost_ret (v := .tuple #[.int .i64 0, .agg #[.slice none 0 0, .int .i64 0], .int .i64 1]) (by simp [results, Try.results34, go_sem, *]) rfl (HvAns.no HE.out (by omega) HB.out)

set_option maxRecDepth 100000 in
set_option maxHeartbeats 4000000 in
theorem rheavy_rest (A B : Option Addr) (N c m d p : Nat) (bs ws : List Int) (w : World) (ho : Octs w A N bs) (hN : N ≤ 1000) (hp : p ≤ N) (hw : Ints w B m ws) (hm : m ≤ 256) :
    Calls Try.prog 34 #[.agg #[.slice A N c, .int .i64 (p : Int)], .slice B m d] w (HvAns ws bs p N w) := by
  obtain ⟨k2, k5, b0⟩ := lies2 w #[.slice A N c, .int .i64 (p : Int)] #[.slice none 0 0, .int .i64 0] 24 24
  have HO := Lib.hid ho
  have HW := Lib.hid hw
  have HL := Lib.hid hw.1
  clear ho hw
  go_enter Try.func34, Try.ntmps34
  go_wp2_with fail
  refine (rcheck_ok A N c p _ (by omega) (by omega)).mono ?_
  rintro e w1 ⟨rfl, hb1⟩
  have k51 := k5.below hb1 k5.lt
  have k21 := k2.below hb1 k2.lt
  have b1 := Lib.hid (below3 b0 hb1)
  have q0 := k51.c0
  have q1 := k51.c1
  have f0 := k51.frozen 0
  have f1 := k51.frozen 1
  have K5 := Lib.hid k51
  have K2 := Lib.hid k21
  have W1 := Lib.hid (HW.out.below b1.out)
  clear hb1 k2 k5 b0 k51 k21 HW
  have HB := Lib.hid ((b1.out.setCell (p := ⟨w.heap.size + 1, 0, none⟩) (by simp) (.slice none 0 0)).setCell (p := ⟨w.heap.size + 1, 1, none⟩) (by simp) (.int .i64 0))
  go_wp2
  go_loop [7, 26] (fun s t => ∃ (k : Nat) (z : Int), k ≤ m ∧ t = .int .i64 k ∧ s = .int .i64 z ∧ 0 ≤ z ∧ z ≤ 65536 * (k : Int) ∧ Hid (z = pre ws k) ∧ Hid (∀ j, j < k → 0 ≤ nth ws j ∧ nth ws j ≤ 65536)) (fun _ t => m - (intOf t).toNat)
  case atStart => exact ⟨0, 0, Nat.zero_le _, rfl, rfl, by omega, by omega, Lib.hid (pre_zero _).symm, Lib.hid (fun j hj => by omega)⟩
  case round =>
    obtain ⟨k, z, hk, rfl, rfl, z0, z1, HZ, HA⟩ := hrel
    by_cases hlt : k < m
    · obtain ⟨-, -, -, hc⟩ := W1.out
      obtain ⟨b, o, rfl, -, hcell⟩ := hc (by omega)
      have c1 := hcell k hlt
      clear hcell hc
      have hkl : k < ws.length := by rw [HL.out]; exact hlt
      by_cases hb : nth ws k < 0 ∨ 65536 < nth ws k
      · have HE := Lib.hid (weightE_bad hkl hb)
        clear hkl
        rcases hb with hb | hb
        all_goals
          go_wp2
          exact bodyPost_ret (v := .tuple #[.int .i64 0, .agg #[.slice none 0 0, .int .i64 0], .int .i64 1]) (by simp [results, Try.results34, go_sem, *]) rfl (HvAns.no HE.out (by omega) HB.out)
      · have hb1 : 0 ≤ nth ws k := by omega
        have hb2 : nth ws k ≤ 65536 := by omega
        have HZ' := Lib.hid (show z + nth ws k = pre ws (k + 1) by rw [pre_succ hkl, HZ.out])
        have HA' : Hid (∀ j, j < k + 1 → 0 ≤ nth ws j ∧ nth ws j ≤ 65536) := Lib.hid (fun j hj => by
          rcases Nat.lt_or_ge j k with h | h
          · exact HA.out j h
          · rw [show j = k by omega]; exact ⟨hb1, hb2⟩)
        clear hkl hb
        go_wp2
        go_round
        case rel => exact ⟨k + 1, z + nth ws k, by omega, by go_num, rfl, by omega, by omega, HZ', HA'⟩
        case measure => simp [intOf]; omega
    · obtain rfl : k = m := by omega
      have hall := all_nth (ws := ws) (fun j hj => HA.out j (by rw [HL.out] at hj; exact hj))
      have hz : z = ws.sum := by rw [HZ.out, ← pre_all, HL.out]
      have HE := Lib.hid (weightE_fine (by rw [HL.out]; omega) hall)
      have HAl := Lib.hid hall
      rw [← hz] at HE
      have HS := Lib.hid hz
      clear hall hz HZ HA
      by_cases h1 : 65536 < z
      · have HE1 : Hid (weightE ws = 4) := Lib.hid (by rw [HE.out, if_pos h1])
        go_wp2
        exact bodyPost_ret (v := .tuple #[.int .i64 0, .agg #[.slice none 0 0, .int .i64 0], .int .i64 4]) (by simp [results, Try.results34, go_sem, *]) rfl (HvAns.no HE1.out (by omega) HB.out)
      · by_cases h2 : z = 0
        · subst h2
          have HE1 : Hid (weightE ws = 5) := Lib.hid (by rw [HE.out]; rfl)
          go_wp2
          exact bodyPost_ret (v := .tuple #[.int .i64 0, .agg #[.slice none 0 0, .int .i64 0], .int .i64 5]) (by simp [results, Try.results34, go_sem, *]) rfl (HvAns.no HE1.out (by omega) HB.out)
        · have e1 : (z == 0) = false := by simpa using h2
          have HE1 : Hid (weightE ws = 0) := Lib.hid (by rw [HE.out, if_neg h1, if_neg h2])
          have d0 := K2.out.c0
          have d1 := K2.out.c1
          obtain ⟨x, hx⟩ : ∃ x, drawAt bs p % z = x := ⟨_, rfl⟩
          have x0 : 0 ≤ x := by rw [← hx]; exact Int.emod_nonneg _ (by omega)
          have x1 : x < z := by rw [← hx]; exact Int.emod_lt_of_pos _ (by omega)
          have HX := Lib.hid hx
          clear hx q0 q1 f0 f1
          go_wp2_with fail
          refine (rbelow_as A N c p bs z x _ (HO.out.below b1.out) hN hp (by omega) (by omega) HX.out).mono ?_
          rintro e w2 ⟨A2, c2, rfl, ho2, hb2⟩
          have hal := (Below.refl w2.heap.size w2).alloc (Nat.le_refl _) (.cells #[.slice A2 N c2, .int .i64 (min (p + 2) N : Nat)] 24)
          have K7 := Lib.hid ((K5.out.below hb2 K5.out.lt).alloc (.cells #[.slice A2 N c2, .int .i64 (min (p + 2) N : Nat)] 24))
          have B7 := Lib.hid (below_alloc (below3 b1.out hb2) (.cells #[.slice A2 N c2, .int .i64 (min (p + 2) N : Nat)] 24))
          have W7 := Lib.hid (W1.out.below (hb2.trans (hal.mono hb2.size)))
          have O7 := Lib.hid ((ho2.below hal).base (base' := w.heap.size + 2) K5.out.lt)
          have r0 := K7.out.c0
          have r1 := K7.out.c1
          have f0 := K7.out.frozen 0
          have f1 := K7.out.frozen 1
          have hkp : 0 < k := by
            rcases Nat.eq_zero_or_pos k with h | h
            · subst h; omega
            · exact h
          obtain ⟨-, -, -, hc⟩ := W7.out
          obtain ⟨bb, o, rfl, -, hcell⟩ := hc hkp
          have CC := Lib.hid hcell
          have c00 := hcell 0 hkp
          simp only [Nat.add_zero] at c00
          clear hal hb2 ho2 d0 d1 hc hcell
          have hb0 : 0 ≤ nth ws 0 ∧ nth ws 0 ≤ 65536 := by rw [nth_get (by rw [HL.out]; exact hkp)]; exact HAl.out _ (List.getElem_mem _)
          obtain ⟨b00, b01⟩ := hb0
          have HP0 : Hid (nth ws 0 = pre ws (0 + 1)) := Lib.hid (by rw [pre_succ (by rw [HL.out]; exact hkp), pre_zero]; omega)
          have HB7 := Lib.hid ((B7.out.setCell (p := ⟨w.heap.size + 1, 0, none⟩) (by simp) (.slice A2 N c2)).setCell (p := ⟨w.heap.size + 1, 1, none⟩) (by simp) (.int .i64 (min (p + 2) N : Nat))).drew
          have HN7 := Lib.hid (((O7.out.far (p := ⟨w.heap.size + 1, 0, none⟩) (by simp) (.slice A2 N c2)).far (p := ⟨w.heap.size + 1, 1, none⟩) (by simp) (.int .i64 (min (p + 2) N : Nat))).base (base' := w.heap.size) (by omega)).drew
          go_wp2
          go_loop [13, 14] (fun i t => ∃ (q : Nat) (u : Int), q < k ∧ i = .int .i64 q ∧ t = .int .i64 u ∧ 0 ≤ u ∧ u ≤ 65536 * ((q : Int) + 1) ∧ Hid (u = pre ws (q + 1)) ∧ Hid (pre ws q ≤ x)) (fun i _ => k - (intOf i).toNat)
          case atStart => exact ⟨0, nth ws 0, hkp, rfl, rfl, b00, by omega, HP0, Lib.hid (by rw [pre_zero]; exact x0)⟩
          case round =>
            obtain ⟨q, u, hq, rfl, rfl, u0, u1, HU, HQ⟩ := hrel
            clear c00
            by_cases hle : u ≤ x
            · have hq1 : q + 1 < k := by
                rcases Nat.lt_or_ge (q + 1) k with h | h
                · exact h
                · exfalso
                  have h3 : q + 1 = k := by omega
                  have h4 := HU.out
                  rw [h3, ← HL.out, pre_all, ← HS.out] at h4
                  omega
              have c1 := CC.out (q + 1) hq1
              have hbq : 0 ≤ nth ws (q + 1) ∧ nth ws (q + 1) ≤ 65536 := by rw [nth_get (by rw [HL.out]; exact hq1)]; exact HAl.out _ (List.getElem_mem _)
              obtain ⟨y0, y1⟩ := hbq
              have HU2 : Hid (u + nth ws (q + 1) = pre ws (q + 1 + 1)) := Lib.hid (by rw [pre_succ (by rw [HL.out]; exact hq1), HU.out])
              have HQ2 : Hid (pre ws (q + 1) ≤ x) := Lib.hid (by rw [← HU.out]; exact hle)
              go_wp2
              go_round
              case rel => exact ⟨q + 1, u + nth ws (q + 1), hq1, by go_num, rfl, by omega, by omega, HU2, HQ2⟩
              case measure => simp [intOf]; omega
            · have HK : Hid (pick ws x = q) := Lib.hid (pick_eq (fun y hy => (HAl.out y hy).1) ⟨by rw [HL.out]; exact hq, HQ.out, by rw [← HU.out]; omega⟩)
              have HX2 : Hid (drawAt bs p % ws.sum = x) := Lib.hid (by rw [← HS.out]; exact HX.out)
              have HLB := Lib.hid HO.out.1
              go_wp2_with fail
              go_region
              go_wp2
              exact bodyPost_ret (v := .tuple #[.int .i64 q, .agg #[.slice A2 N c2, .int .i64 (min (p + 2) N : Nat)], .int .i64 0]) (by simp [results, Try.results34, go_sem, *]) rfl ⟨fun _ => ⟨A2, c2, by rw [HX2.out, HK.out, HLB.out], HN7.out, HB7.out⟩, fun h => absurd HE1.out h⟩

theorem rheavy_any (A B : Option Addr) (N c m d p : Nat) (bs ws : List Int) (w : World) (ho : Octs w A N bs) (hN : N ≤ 1000) (hp : p ≤ N) (hw : Ints w B m ws) :
    Calls Try.prog 34 #[.agg #[.slice A N c, .int .i64 (p : Int)], .slice B m d] w (HvAns ws bs p N w) := by
  by_cases h : 256 < m
  · exact rheavy_len A B N c m d p N bs ws w hp hw h
  · exact rheavy_rest A B N c m d p bs ws w ho hN hp hw (by omega)

end Go.Proofs.Ytljfinfjchkphaa

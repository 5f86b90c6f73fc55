/-
  The walk of the law CellSwap: for every input it comes to true; nothing that was there has changed.
-/
import Derived.Test.YtmmilceemnggiaaCLive
import Derived.Test.YtmmilceemnggiaaCRdo
import Derived.Deep.QuietTactic
import Derived.BigQuiet
import Derived.Maps.OwnOps
import Derived.Carry
namespace Go.Proofs.Ytmmilceemnggiaa
open Go.RowKit

theorem nth_set {zs : List Int} {j : Nat} (h : j < zs.length) (x : Int) : nth (zs.set j x) j = x := by simp [nth, h]

theorem below3 {w a b : World} (h : Below w.heap.size w a) (k : Below a.heap.size a b) : Below w.heap.size w b := h.trans (k.mono h.size)

/-- The map literal of the law, made in world W and looked up at b: one fact for each step of it. -/
theorem literal_any (W : World) (s : Nat) (hs : W.heap.size = s) (x y : Int) (fx : Fit x) (fy : Fit y) (b : Bool) :
    ∃ w1 w2, (Instr.mapUpdate 48 (.map (some s)) (.bool true) (.int .i64 x)).run Try.prog (W.alloc (.map #[] 0)) = .ok () w1 ∧
      (Instr.mapUpdate 48 (.map (some s)) (.bool false) (.int .i64 y)).run Try.prog w1 = .ok () w2 ∧
      (Instr.lookup 48 (.map (some s)) (.bool b) false).run Try.prog w2 = .ok (.int .i64 (if b then x else y)) w2 ∧ Below W.heap.size W w2 := by
  subst hs
  have K : Maps.Keyed Try.prog 4 := Maps.bool_keyed Try.underlying4
  have own0 := World.ownsMap_made (H := Unit) W Try.prog 4 (plainElem Try.prog 2)
  obtain ⟨w1, r1, own1, g1⟩ := own0.update K Try.underlying48 (by unfold maxLen; omega) (Maps.keyOf_bool_mk Try.underlying4 true) (plainElem_int Try.underlying2 (wf_of_fit fx))
  obtain ⟨w2, r2, own2, g2⟩ := own1.update K Try.underlying48 (by unfold maxLen; omega) (Maps.keyOf_bool_mk Try.underlying4 false) (plainElem_int Try.underlying2 (wf_of_fit fy))
  obtain ⟨c, r3, hat, _⟩ := own2.lookup_int K Try.underlying48 Try.underlying2 (by kernel_rfl) (Maps.keyOf_bool_mk Try.underlying4 b)
  have hc : c = if b then x else y := by
    cases b
    all_goals
      simp [DataW.put, DataW.atKey, DataW.insert, Lit.before, Lit.sameKey] at hat
      simp [hat]
  subst hc
  have hb := (((Below.refl W.heap.size W).alloc (Nat.le_refl _) (.map #[] 0)).grown g1 (by simp) (fun k hk => by cases hk; exact Nat.le_refl _)).grown g2 (Nat.le_trans (by simp) g1.size) (fun k hk => by cases hk; exact Nat.le_refl _)
  exact ⟨w1, w2, r1, r2, r3, hb⟩

section
variable (A : Option Addr) (n c : Nat) (zs : List Int) (p old x : Int) (w : World)

set_option maxHeartbeats 400000 in
theorem swap_big (h : 300 < n) (hm : n ≤ 9223372036854775807) :
    Calls Try.prog 7 #[.slice A n c, .int .i64 p, .int .i64 old, .int .i64 x] w (TrueAns w) := by
  go_enter Try.func7, Try.ntmps7
  go_wp2_with fail
  refine (live_any _).mono ?_
  rintro e w1 ⟨rfl, hb1⟩
  have HB1 := Lib.hid hb1
  clear hb1
  go_wp2
  go_ret
  exact ⟨rfl, HB1.out⟩

set_option maxHeartbeats 400000 in
theorem swap_out (hx : Ints w A n zs) (h : n ≤ 300) (hp : p < 0 ∨ (n : Int) ≤ p) (fo : Fit old) (fx : Fit x) :
    Calls Try.prog 7 #[.slice A n c, .int .i64 p, .int .i64 old, .int .i64 x] w (TrueAns w) := by
  have e1 : ∀ k a b, doo zs k p a b = ([], 0, 1) := fun k a b => by rw [doo_acc (by have := hx.1; omega), acc_out (by have := hx.1; omega)]
  have E := Lib.hid e1
  have HX := Lib.hid hx
  have FO := Lib.hid fo
  have FX := Lib.hid fx
  clear e1 hx fo fx hp
  go_enter Try.func7, Try.ntmps7
  go_wp2_with fail
  refine (live_any _).mono ?_
  rintro e w1 ⟨rfl, hb1⟩
  have HB1 := Lib.hid hb1
  clear hb1
  go_wp2_with fail
  refine (load_any _ _ _ zs _ _ (HX.out.below HB1.out)).mono ?_
  rw [E.out]
  rintro e w2 ⟨rfl, hb2⟩
  have HB2 := Lib.hid (below3 HB1.out hb2)
  clear hb2
  go_wp2_with fail
  refine (cas_any _ _ _ zs _ _ _ _ (HX.out.below HB2.out) FO.out FX.out).mono ?_
  rw [E.out]
  rintro e w3 ⟨A3, c3, rfl, ho3, hb3⟩
  have HB3 := Lib.hid (below3 HB2.out hb3)
  clear hb3 ho3
  go_wp2
  go_ret
  exact ⟨rfl, HB3.out⟩

set_option maxHeartbeats 400000 in
theorem swap_no (hx : Ints w A n zs) (h : n ≤ 300) (j : Nat) (hj : j < n) (he : nth zs j ≠ old) (fo : Fit old) (fx : Fit x) :
    Calls Try.prog 7 #[.slice A n c, .int .i64 j, .int .i64 old, .int .i64 x] w (TrueAns w) := by
  have hl := hx.1
  have e1 : doo zs 0 j 0 0 = (zs, nth zs j, 0) := by rw [doo_acc (by omega), acc_load (by omega)]
  have e2 : doo zs 2 j old x = (zs, 0, 0) := by rw [doo_acc (by omega), acc_cas_no (by omega) he]
  have e3 := e2
  have e4 := e1
  have b1 : (nth zs j == old) = false := by simpa using he
  clear he
  have E1 := Lib.hid e1
  have E2 := Lib.hid e2
  have E3 := Lib.hid e3
  have E4 := Lib.hid e4
  have FN := Lib.hid (fit_nth (j := j) hx.2.2.1 (by omega))
  have S := Lib.hid (sameB_all (xs := zs) (ys := zs) rfl rfl (fun _ _ => rfl))
  have HX := Lib.hid hx
  have FO := Lib.hid fo
  have FX := Lib.hid fx
  clear e1 e2 e3 e4 hx fo fx hl
  go_enter Try.func7, Try.ntmps7
  go_wp2_with fail
  refine (live_any _).mono ?_
  rintro e w1 ⟨rfl, hb1⟩
  have HB1 := Lib.hid hb1
  clear hb1
  go_wp2_with fail
  refine (load_any _ _ _ zs _ _ (HX.out.below HB1.out)).mono ?_
  rw [E1.out]
  rintro e w2 ⟨rfl, hb2⟩
  have HB2 := Lib.hid (below3 HB1.out hb2)
  clear hb2
  go_wp2_with fail
  refine (cas_any _ _ _ zs _ _ _ _ (HX.out.below HB2.out) FO.out FX.out).mono ?_
  rw [E2.out]
  rintro e w3 ⟨A3, c3, rfl, ho3, hb3⟩
  have HB3 := Lib.hid (below3 HB2.out hb3)
  have HO3 := Lib.hid ho3
  clear hb3 ho3
  simp only []
  go_wp2_with fail
  refine (cas_any _ _ _ zs _ _ _ _ HO3.out.ints FO.out FX.out).mono ?_
  rw [E3.out]
  rintro e w4 ⟨A4, c4, rfl, ho4, hb4⟩
  have HB4 := Lib.hid hb4
  have HO4 := Lib.hid ho4
  clear hb4 ho4
  simp only []
  go_wp2_with fail
  refine (load_any _ _ _ zs _ _ HO4.out.ints).mono ?_
  rw [E4.out]
  rintro e w5 ⟨rfl, hb5⟩
  have HB5 := Lib.hid hb5
  clear hb5
  go_wp2_with fail
  refine (same_any _ _ _ _ _ _ zs zs _ ((HO3.out.below HB4.out).below HB5.out).ints (HO4.out.below HB5.out).ints).mono ?_
  rw [S.out]
  rintro e w6 ⟨rfl, k, rfl⟩
  have hmm := @run_makeMap Try.prog
  obtain ⟨wa, wb, r1, r2, r3, hbm⟩ := literal_any (w5.drewN k) w5.heap.size rfl x (nth zs j) FX.out FN.out false
  have HB6 : Hid (Below w5.heap.size w5 wb) := Lib.hid ⟨hbm.os, hbm.tape, hbm.output, hbm.size, hbm.block⟩
  clear hbm
  go_wp2
  go_ret
  exact ⟨rfl, below3 (below3 (below3 HB3.out HB4.out) HB5.out) HB6.out⟩

set_option maxHeartbeats 400000 in
theorem swap_yes (hx : Ints w A n zs) (h : n ≤ 300) (j : Nat) (hj : j < n) (he : nth zs j = old) (hne : old ≠ x) (fo : Fit old) (fx : Fit x) :
    Calls Try.prog 7 #[.slice A n c, .int .i64 j, .int .i64 old, .int .i64 x] w (TrueAns w) := by
  have hl := hx.1
  have e1 : doo zs 0 j 0 0 = (zs, nth zs j, 0) := by rw [doo_acc (by omega), acc_load (by omega)]
  have e2 : doo zs 2 j old x = (zs.set j x, 1, 0) := by rw [doo_acc (by omega), acc_cas_yes (by omega) he]
  have hl2 : (zs.set j x).length = n := by simpa using hl
  have e3 : doo (zs.set j x) 2 j old x = (zs.set j x, 0, 0) := by rw [doo_acc (by omega), acc_cas_no (by omega) (by rw [nth_set (by omega)]; exact Ne.symm hne)]
  have e4 : doo (zs.set j x) 0 j 0 0 = (zs.set j x, x, 0) := by rw [doo_acc (by omega), acc_load (by omega), nth_set (by omega)]
  have b1 : (nth zs j == old) = true := by simpa using he
  have b2 : (old == x) = false := by simpa using hne
  generalize zs.set j x = cs at e2 e3 e4 hl2
  clear he hne hl2
  have E1 := Lib.hid e1
  have E2 := Lib.hid e2
  have E3 := Lib.hid e3
  have E4 := Lib.hid e4
  have FN := Lib.hid (fit_nth (j := j) hx.2.2.1 (by omega))
  have S := Lib.hid (sameB_all (xs := cs) (ys := cs) rfl rfl (fun _ _ => rfl))
  have HX := Lib.hid hx
  have FO := Lib.hid fo
  have FX := Lib.hid fx
  clear e1 e2 e3 e4 hx fo fx hl
  go_enter Try.func7, Try.ntmps7
  go_wp2_with fail
  refine (live_any _).mono ?_
  rintro e w1 ⟨rfl, hb1⟩
  have HB1 := Lib.hid hb1
  clear hb1
  go_wp2_with fail
  refine (load_any _ _ _ zs _ _ (HX.out.below HB1.out)).mono ?_
  rw [E1.out]
  rintro e w2 ⟨rfl, hb2⟩
  have HB2 := Lib.hid (below3 HB1.out hb2)
  clear hb2
  go_wp2_with fail
  refine (cas_any _ _ _ zs _ _ _ _ (HX.out.below HB2.out) FO.out FX.out).mono ?_
  rw [E2.out]
  rintro e w3 ⟨A3, c3, rfl, ho3, hb3⟩
  have HB3 := Lib.hid (below3 HB2.out hb3)
  have HO3 := Lib.hid ho3
  clear hb3 ho3
  simp only []
  go_wp2_with fail
  refine (cas_any _ _ _ cs _ _ _ _ HO3.out.ints FO.out FX.out).mono ?_
  rw [E3.out]
  rintro e w4 ⟨A4, c4, rfl, ho4, hb4⟩
  have HB4 := Lib.hid hb4
  have HO4 := Lib.hid ho4
  clear hb4 ho4
  simp only []
  go_wp2_with fail
  refine (load_any _ _ _ cs _ _ HO4.out.ints).mono ?_
  rw [E4.out]
  rintro e w5 ⟨rfl, hb5⟩
  have HB5 := Lib.hid hb5
  clear hb5
  go_wp2_with fail
  refine (same_any _ _ _ _ _ _ cs cs _ ((HO3.out.below HB4.out).below HB5.out).ints (HO4.out.below HB5.out).ints).mono ?_
  rw [S.out]
  rintro e w6 ⟨rfl, k, rfl⟩
  have hmm := @run_makeMap Try.prog
  obtain ⟨wa, wb, r1, r2, r3, hbm⟩ := literal_any (w5.drewN k) w5.heap.size rfl x (nth zs j) FX.out FN.out true
  have HB6 : Hid (Below w5.heap.size w5 wb) := Lib.hid ⟨hbm.os, hbm.tape, hbm.output, hbm.size, hbm.block⟩
  clear hbm
  go_wp2
  go_ret
  exact ⟨rfl, below3 (below3 (below3 HB3.out HB4.out) HB5.out) HB6.out⟩

set_option maxHeartbeats 400000 in
theorem swap_same (hx : Ints w A n zs) (h : n ≤ 300) (j : Nat) (hj : j < n) (he : nth zs j = old) (heq : old = x) (fo : Fit old) (fx : Fit x) :
    Calls Try.prog 7 #[.slice A n c, .int .i64 j, .int .i64 old, .int .i64 x] w (TrueAns w) := by
  have hl := hx.1
  have e1 : doo zs 0 j 0 0 = (zs, nth zs j, 0) := by rw [doo_acc (by omega), acc_load (by omega)]
  have e2 : doo zs 2 j old x = (zs, 1, 0) := by rw [doo_acc (by omega), acc_cas_yes (by omega) he, ← heq, ← he, set_same (by omega)]
  have e3 := e2
  have e4 : doo zs 0 j 0 0 = (zs, x, 0) := by rw [e1, he, heq]
  have b1 : (nth zs j == old) = true := by simpa using he
  have b2 : (old == x) = true := by simpa using heq
  clear he heq
  have E1 := Lib.hid e1
  have E2 := Lib.hid e2
  have E3 := Lib.hid e3
  have E4 := Lib.hid e4
  have FN := Lib.hid (fit_nth (j := j) hx.2.2.1 (by omega))
  have S := Lib.hid (sameB_all (xs := zs) (ys := zs) rfl rfl (fun _ _ => rfl))
  have HX := Lib.hid hx
  have FO := Lib.hid fo
  have FX := Lib.hid fx
  clear e1 e2 e3 e4 hx fo fx hl
  go_enter Try.func7, Try.ntmps7
  go_wp2_with fail
  refine (live_any _).mono ?_
  rintro e w1 ⟨rfl, hb1⟩
  have HB1 := Lib.hid hb1
  clear hb1
  go_wp2_with fail
  refine (load_any _ _ _ zs _ _ (HX.out.below HB1.out)).mono ?_
  rw [E1.out]
  rintro e w2 ⟨rfl, hb2⟩
  have HB2 := Lib.hid (below3 HB1.out hb2)
  clear hb2
  go_wp2_with fail
  refine (cas_any _ _ _ zs _ _ _ _ (HX.out.below HB2.out) FO.out FX.out).mono ?_
  rw [E2.out]
  rintro e w3 ⟨A3, c3, rfl, ho3, hb3⟩
  have HB3 := Lib.hid (below3 HB2.out hb3)
  have HO3 := Lib.hid ho3
  clear hb3 ho3
  simp only []
  go_wp2_with fail
  refine (cas_any _ _ _ zs _ _ _ _ HO3.out.ints FO.out FX.out).mono ?_
  rw [E3.out]
  rintro e w4 ⟨A4, c4, rfl, ho4, hb4⟩
  have HB4 := Lib.hid hb4
  have HO4 := Lib.hid ho4
  clear hb4 ho4
  simp only []
  go_wp2_with fail
  refine (load_any _ _ _ zs _ _ HO4.out.ints).mono ?_
  rw [E4.out]
  rintro e w5 ⟨rfl, hb5⟩
  have HB5 := Lib.hid hb5
  clear hb5
  go_wp2_with fail
  refine (same_any _ _ _ _ _ _ zs zs _ ((HO3.out.below HB4.out).below HB5.out).ints (HO4.out.below HB5.out).ints).mono ?_
  rw [S.out]
  rintro e w6 ⟨rfl, k, rfl⟩
  have hmm := @run_makeMap Try.prog
  obtain ⟨wa, wb, r1, r2, r3, hbm⟩ := literal_any (w5.drewN k) w5.heap.size rfl x (nth zs j) FX.out FN.out true
  have HB6 : Hid (Below w5.heap.size w5 wb) := Lib.hid ⟨hbm.os, hbm.tape, hbm.output, hbm.size, hbm.block⟩
  clear hbm
  go_wp2
  go_ret
  exact ⟨rfl, below3 (below3 (below3 HB3.out HB4.out) HB5.out) HB6.out⟩

theorem swap_any (hx : Ints w A n zs) (fp : Fit p) (fo : Fit old) (fx : Fit x) :
    Calls Try.prog 7 #[.slice A n c, .int .i64 p, .int .i64 old, .int .i64 x] w (TrueAns w) := by
  have hm := hx.2.1
  by_cases h : 300 < n
  · exact swap_big A n c p old x w h (by omega)
  by_cases hp : p < 0 ∨ (n : Int) ≤ p
  · exact swap_out A n c zs p old x w hx (by omega) hp fo fx
  obtain ⟨j, rfl⟩ : ∃ i : Nat, p = i := ⟨p.toNat, by omega⟩
  by_cases he : nth zs j = old
  · by_cases hq : old = x
    · exact swap_same A n c zs old x w hx (by omega) j (by omega) he hq fo fx
    · exact swap_yes A n c zs old x w hx (by omega) j (by omega) he hq fo fx
  · exact swap_no A n c zs old x w hx (by omega) j (by omega) he fo fx
end

end Go.Proofs.Ytmmilceemnggiaa

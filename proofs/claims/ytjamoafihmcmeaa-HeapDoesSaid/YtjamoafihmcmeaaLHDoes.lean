/-
  The law HeapDoes: any heap with a timer more, with one fewer, and with one at another time, or why not; it stays as it was: the walk.
-/
import Derived.Test.YtjamoafihmcmeaaLHf
namespace Go.Proofs.Ytjamoafihmcmeaa
open Go.RowKit

set_option maxRecDepth 100000 in
set_option maxHeartbeats 8000000 in
theorem ldoes_any (A : Option Addr) (n c : Nat) (l : List Tm) (t1 t2 id at_ : Int) (w : World) (hx : Tms w A n c l) (f1 : Fit t1) (f2 : Fit t2) (f3 : Fit id) (f4 : Fit at_) :
    Calls Try.prog 3 #[.slice A n c, .agg #[.int .i64 t1, .int .i64 t2], .int .i64 id, .int .i64 at_] w (TrueAns w) := by
  have LX := Lib.hid hx.1
  have F1 := Lib.hid f1
  have F2 := Lib.hid f2
  have F3 := Lib.hid f3
  have F4 := Lib.hid f4
  have hnc := hx.2.1
  have k0 := Bk.new w 24 #[.int .i64 t1, .int .i64 t2]
  have b0 := (Below.refl w.heap.size w).alloc (Nat.le_refl _) (.cells #[.int .i64 t1, .int .i64 t2] 24)
  obtain ⟨gt, hgt⟩ : ∃ g, w.heap.size = g := ⟨_, rfl⟩
  obtain ⟨W, hW⟩ : ∃ W, w.alloc (.cells #[.int .i64 t1, .int .i64 t2] 24) = W := ⟨_, rfl⟩
  rw [hW] at k0 b0
  rw [hgt] at k0
  have HX := Lib.hid (hx.below b0)
  have HW := Lib.hid hW
  have HGT := Lib.hid hgt
  have K0 := Lib.hid k0
  have BB := Lib.hid b0
  clear hx f1 f2 f3 f4 k0 b0 hW hgt
  go_enter Try.func3, Try.ntmps3
  go_upto_region 1 with fail
  rw [HW.out]
  try rw [HGT.out]
  clear HW
  go_wp2_with fail
  refine (live_any _).mono ?_
  rintro e w1 ⟨rfl, b1⟩
  replace HX := Lib.hid (HX.out.below b1)
  replace K0 := Lib.hid (K0.out.below b1 K0.out.lt)
  replace BB := Lib.hid (below3 BB.out b1)
  clear b1
  by_cases h300 : 300 < n
  · go_wp2_with fail
    go_ret
    exact ⟨rfl, BB.out⟩
  · have h300' : n ≤ 300 := by omega
    go_wp2_with (at_builtin; refine wpList_append_tms _ rfl _ _ 22 rfl 24 _ rfl Try.underlying22 infoT w1.heap.size none 0 [] 0 rfl rfl (OwnT.nil_ _ _ _) A n c l rfl HX.out (by simp; omega) (Nat.le_refl _) ?_; intro Aw cw w2 ho hgr; rw [List.nil_append] at ho ⊢; have b2 : Below w1.heap.size w1 w2 := (Below.refl _ _).grown hgr (Nat.le_refl _) (by intro k hk; simp [Value.ownBlock] at hk); have OW := Lib.hid (LX.out ▸ ho.tms); rw [LX.out]; replace HX := Lib.hid (HX.out.below b2); replace K0 := Lib.hid (K0.out.below b2 K0.out.lt); replace BB := Lib.hid (below3 BB.out b2); have q0 : _ = some (Value.int .i64 t1) := K0.out.cell 0; have q1 : _ = some (Value.int .i64 t2) := K0.out.cell 1; have lq := K0.out.lt; have BB2 := BB; have HX2 := HX; have OW2 := OW; clear ho hgr b2)
    refine (padd_any A n c l t1 t2 _ HX.out F1.out F2.out).mono ?_
    rintro e w3 ⟨A3, c3, a3, z3, rfl, s3, o3, b3⟩
    replace HX := Lib.hid (HX.out.below b3)
    replace OW := Lib.hid (OW.out.below b3)
    replace K0 := Lib.hid (K0.out.below b3 K0.out.lt)
    replace BB := Lib.hid (below3 BB.out b3)
    have OA := Lib.hid o3
    have BC := Lib.hid b3
    obtain ⟨r3, y3, hr3⟩ : ∃ r y, addR l (t1, t2) = (r, y) := ⟨_, _, rfl⟩
    obtain ⟨hz3, hf3⟩ := add_fit s3 hr3
    subst hz3
    have FT3 := Lib.hid hf3
    have HRR3 := Lib.hid hr3
    clear b3 o3 s3 hr3 hf3
    clear q0 q1 lq
    have q0 : _ = some (Value.int .i64 t1) := K0.out.cell 0
    have q1 : _ = some (Value.int .i64 t2) := K0.out.cell 1
    have lq := K0.out.lt
    go_wp2_with fail
    refine (add_any A n c l t1 t2 _ HX.out F1.out F2.out (by omega)).mono ?_
    rw [HRR3.out]
    rintro e w4 ⟨A4, c4, rfl, o4, b4⟩
    replace HX := Lib.hid (HX.out.below b4)
    replace OW := Lib.hid (OW.out.below b4)
    replace OA := Lib.hid (OA.out.below b4)
    replace K0 := Lib.hid (K0.out.below b4 K0.out.lt)
    replace BB := Lib.hid (below3 BB.out b4)
    replace BC := Lib.hid (below3 BC.out b4)
    have OA' := Lib.hid o4.tms
    clear b4 o4 HRR3
    clear q0 q1 lq
    go_wp2_with fail
    refine (pcancel_any A n c l id _ HX.out).mono ?_
    rintro e w5 ⟨A5, c5, a5, z5, rfl, s5, o5, b5⟩
    replace HX := Lib.hid (HX.out.below b5)
    replace OW := Lib.hid (OW.out.below b5)
    replace OA := Lib.hid (OA.out.below b5)
    replace OA' := Lib.hid (OA'.out.below b5)
    replace BB := Lib.hid (below3 BB.out b5)
    replace BC := Lib.hid (below3 BC.out b5)
    have OC := Lib.hid o5.tms
    obtain ⟨r5, y5, hr5⟩ : ∃ r y, cancelR l id = (r, y) := ⟨_, _, rfl⟩
    obtain ⟨hz5, hf5⟩ := cancel_fit s5 hr5
    subst hz5
    have FT5 := Lib.hid hf5
    have HRR5 := Lib.hid hr5
    clear b5 o5 s5 hr5 hf5
    go_wp2_with fail
    refine (cancel_any A n c l id _ HX.out (by omega)).mono ?_
    rw [HRR5.out]
    rintro e w6 ⟨A6, c6, rfl, o6, b6⟩
    replace HX := Lib.hid (HX.out.below b6)
    replace OW := Lib.hid (OW.out.below b6)
    replace OA := Lib.hid (OA.out.below b6)
    replace OA' := Lib.hid (OA'.out.below b6)
    replace OC := Lib.hid (OC.out.below b6)
    replace BB := Lib.hid (below3 BB.out b6)
    replace BC := Lib.hid (below3 BC.out b6)
    have OC' := Lib.hid o6.tms
    clear b6 o6 HRR5
    go_wp2_with fail
    refine (preset_any A n c l id at_ _ HX.out F4.out).mono ?_
    rintro e w7 ⟨A7, c7, a7, z7, rfl, s7, o7, b7⟩
    replace HX := Lib.hid (HX.out.below b7)
    replace OW := Lib.hid (OW.out.below b7)
    replace OA := Lib.hid (OA.out.below b7)
    replace OA' := Lib.hid (OA'.out.below b7)
    replace OC := Lib.hid (OC.out.below b7)
    replace OC' := Lib.hid (OC'.out.below b7)
    replace BB := Lib.hid (below3 BB.out b7)
    replace BC := Lib.hid (below3 BC.out b7)
    have OE := Lib.hid o7.tms
    obtain ⟨r7, y7, hr7⟩ : ∃ r y, resetR l id at_ = (r, y) := ⟨_, _, rfl⟩
    obtain ⟨hz7, hf7⟩ := reset_fit s7 hr7
    subst hz7
    have FT7 := Lib.hid hf7
    have HRR7 := Lib.hid hr7
    clear b7 o7 s7 hr7 hf7
    go_wp2_with fail
    refine (reset_any A n c l id at_ _ HX.out F3.out F4.out (by omega)).mono ?_
    rw [HRR7.out]
    rintro e w8 ⟨A8, c8, rfl, o8, b8⟩
    replace HX := Lib.hid (HX.out.below b8)
    replace OW := Lib.hid (OW.out.below b8)
    replace OA := Lib.hid (OA.out.below b8)
    replace OA' := Lib.hid (OA'.out.below b8)
    replace OC := Lib.hid (OC.out.below b8)
    replace OC' := Lib.hid (OC'.out.below b8)
    replace OE := Lib.hid (OE.out.below b8)
    replace BB := Lib.hid (below3 BB.out b8)
    replace BC := Lib.hid (below3 BC.out b8)
    have OE' := Lib.hid o8.tms
    clear b8 o8 HRR7
    go_wp2_with fail
    refine (fits8_yes A3 A4 c3 c4 a3 y3 z3 _ OA.out.tms OA'.out FT3.out).mono ?_
    rintro e v3 ⟨rfl, b9⟩
    replace HX := Lib.hid (HX.out.below b9)
    replace OW := Lib.hid (OW.out.below b9)
    replace OA := Lib.hid (OA.out.below b9)
    replace OA' := Lib.hid (OA'.out.below b9)
    replace OC := Lib.hid (OC.out.below b9)
    replace OC' := Lib.hid (OC'.out.below b9)
    replace OE := Lib.hid (OE.out.below b9)
    replace OE' := Lib.hid (OE'.out.below b9)
    replace BB := Lib.hid (below3 BB.out b9)
    replace BC := Lib.hid (below3 BC.out b9)
    clear b9
    go_wp2_with fail
    refine (fits8_yes A5 A6 c5 c6 a5 y5 z5 _ OC.out OC'.out FT5.out).mono ?_
    rintro e v5 ⟨rfl, b9⟩
    replace HX := Lib.hid (HX.out.below b9)
    replace OW := Lib.hid (OW.out.below b9)
    replace OA := Lib.hid (OA.out.below b9)
    replace OA' := Lib.hid (OA'.out.below b9)
    replace OC := Lib.hid (OC.out.below b9)
    replace OC' := Lib.hid (OC'.out.below b9)
    replace OE := Lib.hid (OE.out.below b9)
    replace OE' := Lib.hid (OE'.out.below b9)
    replace BB := Lib.hid (below3 BB.out b9)
    replace BC := Lib.hid (below3 BC.out b9)
    clear b9
    go_wp2_with fail
    refine (fits8_yes A7 A8 c7 c8 a7 y7 z7 _ OE.out OE'.out FT7.out).mono ?_
    rintro e v7 ⟨rfl, b9⟩
    replace HX := Lib.hid (HX.out.below b9)
    replace OW := Lib.hid (OW.out.below b9)
    replace OA := Lib.hid (OA.out.below b9)
    replace OA' := Lib.hid (OA'.out.below b9)
    replace OC := Lib.hid (OC.out.below b9)
    replace OC' := Lib.hid (OC'.out.below b9)
    replace OE := Lib.hid (OE.out.below b9)
    replace OE' := Lib.hid (OE'.out.below b9)
    replace BB := Lib.hid (below3 BB.out b9)
    replace BC := Lib.hid (below3 BC.out b9)
    clear b9
    clear OA' OC OC' OE OE' FT3 FT5 FT7
    go_wp2_with fail
    go_loopw [93] (fun t wr => ∃ (k : Nat) (m : List Tm), t = .int .i64 (k : Int) ∧ k ≤ a3.length ∧ Hid (m.length = a3.length) ∧ Hid (OwnT 24 wr w2.heap.size A3 c3 m) ∧ Hid (Below w2.heap.size w2 wr)) (fun t _ => a3.length - (intOf t).toNat)
    case atStart => exact ⟨0, a3, rfl, Nat.zero_le _, Lib.hid rfl, OA, BC⟩
    case round =>
      clear OA BC
      rename World => wr
      obtain ⟨k, m, rfl, hk, HM, OM, BC⟩ := hrel
      by_cases hkn : k < a3.length
      · have hkm : k < m.length := by rw [HM.out]; exact hkn
        obtain ⟨g, rfl, hg⟩ := OM.out.some_ (by omega)
        have OR : Hid (RowT wr w2.heap.size g c3 m) := OM
        obtain ⟨c0, c1, f0, f1⟩ := OR.out.at2 hkm
        obtain ⟨x1, hx1⟩ : ∃ z, jO m k = z := ⟨_, rfl⟩
        rw [hx1] at c0
        obtain ⟨v, hv⟩ : ∃ v, IntKind.i64.wrap (x1 + 1) = v := ⟨_, rfl⟩
        have fv : Fit v := hv ▸ wrap_fit _
        have O2 := Lib.hid (OR.out.put1 hkm fv)
        have B2 := Lib.hid (BC.out.setCell (p := ⟨g, k * 2, none⟩) hg (.int .i64 v))
        have HLM := Lib.hid (show (m.set k (v, jA m k)).length = a3.length by rw [List.length_set]; exact HM.out)
        have hcap := OR.out.cap
        have hmm := HM.out
        have hc3 : a3.length ≤ c3 ∧ c3 ≤ 9223372036854775807 := by omega
        clear hx1 fv OM OR hg hcap hmm BC
        go_wp2_with fail
        go_roundw
        case rel => exact ⟨k + 1, _, by go_num, by omega, HLM, O2, B2⟩
        case measure => simp only [intOf]; omega
      · have hkn' : k = a3.length := by omega
        have HKN := Lib.hid hkn'
        have BF := Lib.hid ((BB2.out).trans (BC.out.mono BB2.out.size))
        have HS := Lib.hid (sameT_refl l ▸ samelist_any A Aw n c n cw l l wr (HX2.out.below BC.out) (OW2.out.below BC.out))
        clear hkn' BC
        go_wp2_with fail
        refine HS.out.mono ?_
        rintro e w9 ⟨rfl, q, rfl⟩
        go_wp2_with fail
        go_ret
        exact ⟨rfl, below_drewN BF.out q⟩

end Go.Proofs.Ytjamoafihmcmeaa

/-
  The law PollDoes: any descriptor opened, shut, armed, and fired, and anybody dropped, or why not; they stay as they were: the walk.
-/
import Derived.Test.YtndbaoiabmldgaaLv
namespace Go.Proofs.Ytndbaoiabmldgaa
open Go.RowKit

theorem wrap_fit (x : Int) : Fit (IntKind.i64.wrap x) := by unfold Fit; rw [IntKind.wrap_i64]; omega
theorem cellsD_set1 : ∀ (l : List Ds) (i : Nat) (v : Int), i < l.length → (cellsD l).set (i * 3 + 2) (.int .i64 v) = cellsD (l.set i ((dth l i).1, (dth l i).2.1, v))
  | [], _, _, h => absurd h (Nat.not_lt_zero _)
  | t :: l, 0, v, _ => by simp [cellsD, cells3, dth]
  | t :: l, i + 1, v, h => by
    have ih := cellsD_set1 l i v (by simpa using h)
    have e : ∀ q, cellsD (t :: q) = [Value.bool t.1, .bool t.2.1, .int .i64 t.2.2] ++ cellsD q := fun q => by simp [cellsD, cells3]
    have ed : dth (t :: l) (i + 1) = dth l i := by simp [dth]
    rw [ed, List.set_cons_succ, e, e, ← ih, show (i + 1) * 3 + 2 = (i * 3 + 2) + 3 by omega]
    simp
theorem OwnD.put1 {E : TypeId} {w : World} {base g c : Nat} {l : List Ds} (h : RowD E w base g c l) {k : Nat} (hk : k < l.length) {v : Int} (hv : Fit v) :
    RowD E (w.setCell ⟨g, k * 3 + 2, none⟩ (.int .i64 v)) base g c (l.set k ((dth l k).1, (dth l k).2.1, v)) := by
  obtain ⟨h1, h2, h3⟩ := h
  refine ⟨by rw [List.length_set]; exact h1, fun y hy => ?_, ?_⟩
  · rcases List.mem_or_eq_of_mem_set hy with h | h
    · exact h2 y h
    · rw [h]; exact hv
  · have a := (h3.stored (k * 3 + 2) (.int .i64 v)).1
    rw [cellsD_set1 l k v hk] at a
    rw [List.length_set]
    exact a

set_option maxRecDepth 100000 in
set_option maxHeartbeats 8000000 in
theorem ldoes_any (A : Option Addr) (n c : Nat) (l : List Ds) (i id : Int) (w : World) (hx : Dss w A n c l) (fid : Fit id) :
    Calls Try.prog 3 #[.slice A n c, .int .i64 i, .int .i64 id] w (TrueAns w) := by
  have HX := Lib.hid hx
  have LX := Lib.hid hx.1
  have FID := Lib.hid fid
  have hnc := hx.2.1
  clear hx fid
  go_enter Try.func3, Try.ntmps3
  go_wp2_with fail
  refine (live_any _).mono ?_
  rintro e w1 ⟨rfl, b0⟩
  replace HX := Lib.hid (HX.out.below b0)
  have BB := Lib.hid b0
  clear b0
  by_cases h60 : 60 < n
  · go_wp2_with fail
    go_ret
    exact ⟨rfl, BB.out⟩
  · have h60' : n ≤ 60 := by omega
    go_wp2_with (at_builtin; refine wpList_append_dss _ rfl _ _ 22 rfl 34 _ rfl Try.underlying22 infoD w1.heap.size none 0 [] 0 rfl rfl (OwnD.nil_ _ _ _) A n c l rfl HX.out (by simp; omega) (Nat.le_refl _) ?_; intro Aw cw w2 ho hgr; rw [List.nil_append] at ho ⊢; have b2 : Below w1.heap.size w1 w2 := (Below.refl _ _).grown hgr (Nat.le_refl _) (by intro k hk; simp [Value.ownBlock] at hk); have OW := Lib.hid (LX.out ▸ ho.dss); rw [LX.out]; replace HX := Lib.hid (HX.out.below b2); replace BB := Lib.hid (below3 BB.out b2); have BC := Lib.hid (Below.refl w2.heap.size w2); have BB2 := BB; have HX2 := HX; have OW2 := OW; clear ho hgr b2)
    obtain ⟨⟨e1, p1⟩, hr1⟩ : ∃ r, openR l i = r := ⟨_, rfl⟩
    have HR1 := Lib.hid hr1
    obtain ⟨q1, hq1⟩ : ∃ q, p1.length = q := ⟨_, rfl⟩
    have HQ1 := Lib.hid hq1
    clear hr1 hq1
    obtain ⟨⟨e2, x2, p2⟩, hr2⟩ : ∃ r, shutR l i = r := ⟨_, rfl⟩
    have HR2 := Lib.hid hr2
    obtain ⟨q2, hq2⟩ : ∃ q, p2.length = q := ⟨_, rfl⟩
    have HQ2 := Lib.hid hq2
    clear hr2 hq2
    obtain ⟨⟨e3, x3, p3⟩, hr3⟩ : ∃ r, armR l i id = r := ⟨_, rfl⟩
    have HR3 := Lib.hid hr3
    obtain ⟨q3, hq3⟩ : ∃ q, p3.length = q := ⟨_, rfl⟩
    have HQ3 := Lib.hid hq3
    clear hr3 hq3
    obtain ⟨⟨e4, x4, p4⟩, hr4⟩ : ∃ r, fireR l i = r := ⟨_, rfl⟩
    have HR4 := Lib.hid hr4
    obtain ⟨q4, hq4⟩ : ∃ q, p4.length = q := ⟨_, rfl⟩
    have HQ4 := Lib.hid hq4
    clear hr4 hq4
    obtain ⟨⟨e5, p5⟩, hr5⟩ : ∃ r, dropR l id = r := ⟨_, rfl⟩
    have HR5 := Lib.hid hr5
    obtain ⟨q5, hq5⟩ : ∃ q, p5.length = q := ⟨_, rfl⟩
    have HQ5 := Lib.hid hq5
    clear hr5 hq5
    skip
    refine (popen_any A n c l i _ HX.out (by omega)).mono ?_
    rw [HR1.out]
    rintro e w3 ⟨A3, c3, rfl, o3, b3⟩
    have d3 := o3.dss
    dsimp only at d3 ⊢
    rw [HQ1.out] at d3 ⊢
    have D3 := Lib.hid d3
    replace HX := Lib.hid (HX.out.below b3)
    replace OW := Lib.hid (OW.out.below b3)
    replace BB := Lib.hid (below3 BB.out b3)
    replace BC := Lib.hid (below3 BC.out b3)
    have O1 := Lib.hid o3
    clear o3 b3 d3
    go_wp2_with fail
    refine (ropen_any A n c l i _ HX.out (by omega)).mono ?_
    rw [HR1.out]
    rintro e w4 ⟨A4, c4, rfl, o4, b4⟩
    have d4 := o4.dss
    dsimp only at d4 ⊢
    rw [HQ1.out] at d4 ⊢
    have D4 := Lib.hid d4
    replace HX := Lib.hid (HX.out.below b4)
    replace OW := Lib.hid (OW.out.below b4)
    replace O1 := Lib.hid (O1.out.below b4)
    replace D3 := Lib.hid (D3.out.below b4)
    replace BB := Lib.hid (below3 BB.out b4)
    replace BC := Lib.hid (below3 BC.out b4)
    clear o4 b4 d4
    go_wp2_with fail
    refine (pshut_any A n c l i _ HX.out (by omega)).mono ?_
    rw [HR2.out]
    rintro e w5 ⟨A5, c5, rfl, o5, b5⟩
    have d5 := o5.dss
    dsimp only at d5 ⊢
    rw [HQ2.out] at d5 ⊢
    have D5 := Lib.hid d5
    replace HX := Lib.hid (HX.out.below b5)
    replace OW := Lib.hid (OW.out.below b5)
    replace O1 := Lib.hid (O1.out.below b5)
    replace D3 := Lib.hid (D3.out.below b5)
    replace D4 := Lib.hid (D4.out.below b5)
    replace BB := Lib.hid (below3 BB.out b5)
    replace BC := Lib.hid (below3 BC.out b5)
    clear o5 b5 d5
    go_wp2_with fail
    refine (rshut_any A n c l i _ HX.out (by omega)).mono ?_
    rw [HR2.out]
    rintro e w6 ⟨A6, c6, rfl, o6, b6⟩
    have d6 := o6.dss
    dsimp only at d6 ⊢
    rw [HQ2.out] at d6 ⊢
    have D6 := Lib.hid d6
    replace HX := Lib.hid (HX.out.below b6)
    replace OW := Lib.hid (OW.out.below b6)
    replace O1 := Lib.hid (O1.out.below b6)
    replace D3 := Lib.hid (D3.out.below b6)
    replace D4 := Lib.hid (D4.out.below b6)
    replace D5 := Lib.hid (D5.out.below b6)
    replace BB := Lib.hid (below3 BB.out b6)
    replace BC := Lib.hid (below3 BC.out b6)
    clear o6 b6 d6
    go_wp2_with fail
    refine (parm_any A n c l i id _ HX.out (by omega) FID.out).mono ?_
    rw [HR3.out]
    rintro e w7 ⟨A7, c7, rfl, o7, b7⟩
    have d7 := o7.dss
    dsimp only at d7 ⊢
    rw [HQ3.out] at d7 ⊢
    have D7 := Lib.hid d7
    replace HX := Lib.hid (HX.out.below b7)
    replace OW := Lib.hid (OW.out.below b7)
    replace O1 := Lib.hid (O1.out.below b7)
    replace D3 := Lib.hid (D3.out.below b7)
    replace D4 := Lib.hid (D4.out.below b7)
    replace D5 := Lib.hid (D5.out.below b7)
    replace D6 := Lib.hid (D6.out.below b7)
    replace BB := Lib.hid (below3 BB.out b7)
    replace BC := Lib.hid (below3 BC.out b7)
    clear o7 b7 d7
    go_wp2_with fail
    refine (rarm_any A n c l i id _ HX.out (by omega) FID.out).mono ?_
    rw [HR3.out]
    rintro e w8 ⟨A8, c8, rfl, o8, b8⟩
    have d8 := o8.dss
    dsimp only at d8 ⊢
    rw [HQ3.out] at d8 ⊢
    have D8 := Lib.hid d8
    replace HX := Lib.hid (HX.out.below b8)
    replace OW := Lib.hid (OW.out.below b8)
    replace O1 := Lib.hid (O1.out.below b8)
    replace D3 := Lib.hid (D3.out.below b8)
    replace D4 := Lib.hid (D4.out.below b8)
    replace D5 := Lib.hid (D5.out.below b8)
    replace D6 := Lib.hid (D6.out.below b8)
    replace D7 := Lib.hid (D7.out.below b8)
    replace BB := Lib.hid (below3 BB.out b8)
    replace BC := Lib.hid (below3 BC.out b8)
    clear o8 b8 d8
    go_wp2_with fail
    refine (pfire_any A n c l i _ HX.out (by omega)).mono ?_
    rw [HR4.out]
    rintro e w9 ⟨A9, c9, rfl, o9, b9⟩
    have d9 := o9.dss
    dsimp only at d9 ⊢
    rw [HQ4.out] at d9 ⊢
    have D9 := Lib.hid d9
    replace HX := Lib.hid (HX.out.below b9)
    replace OW := Lib.hid (OW.out.below b9)
    replace O1 := Lib.hid (O1.out.below b9)
    replace D3 := Lib.hid (D3.out.below b9)
    replace D4 := Lib.hid (D4.out.below b9)
    replace D5 := Lib.hid (D5.out.below b9)
    replace D6 := Lib.hid (D6.out.below b9)
    replace D7 := Lib.hid (D7.out.below b9)
    replace D8 := Lib.hid (D8.out.below b9)
    replace BB := Lib.hid (below3 BB.out b9)
    replace BC := Lib.hid (below3 BC.out b9)
    clear o9 b9 d9
    go_wp2_with fail
    refine (rfire_any A n c l i _ HX.out (by omega)).mono ?_
    rw [HR4.out]
    rintro e w10 ⟨A10, c10, rfl, o10, b10⟩
    have d10 := o10.dss
    dsimp only at d10 ⊢
    rw [HQ4.out] at d10 ⊢
    have D10 := Lib.hid d10
    replace HX := Lib.hid (HX.out.below b10)
    replace OW := Lib.hid (OW.out.below b10)
    replace O1 := Lib.hid (O1.out.below b10)
    replace D3 := Lib.hid (D3.out.below b10)
    replace D4 := Lib.hid (D4.out.below b10)
    replace D5 := Lib.hid (D5.out.below b10)
    replace D6 := Lib.hid (D6.out.below b10)
    replace D7 := Lib.hid (D7.out.below b10)
    replace D8 := Lib.hid (D8.out.below b10)
    replace D9 := Lib.hid (D9.out.below b10)
    replace BB := Lib.hid (below3 BB.out b10)
    replace BC := Lib.hid (below3 BC.out b10)
    clear o10 b10 d10
    go_wp2_with fail
    refine (pdrop_any A n c l id _ HX.out (by omega)).mono ?_
    rw [HR5.out]
    rintro e w11 ⟨A11, c11, rfl, o11, b11⟩
    have d11 := o11.dss
    dsimp only at d11 ⊢
    rw [HQ5.out] at d11 ⊢
    have D11 := Lib.hid d11
    replace HX := Lib.hid (HX.out.below b11)
    replace OW := Lib.hid (OW.out.below b11)
    replace O1 := Lib.hid (O1.out.below b11)
    replace D3 := Lib.hid (D3.out.below b11)
    replace D4 := Lib.hid (D4.out.below b11)
    replace D5 := Lib.hid (D5.out.below b11)
    replace D6 := Lib.hid (D6.out.below b11)
    replace D7 := Lib.hid (D7.out.below b11)
    replace D8 := Lib.hid (D8.out.below b11)
    replace D9 := Lib.hid (D9.out.below b11)
    replace D10 := Lib.hid (D10.out.below b11)
    replace BB := Lib.hid (below3 BB.out b11)
    replace BC := Lib.hid (below3 BC.out b11)
    clear o11 b11 d11
    go_wp2_with fail
    refine (rdrop_any A n c l id _ HX.out (by omega)).mono ?_
    rw [HR5.out]
    rintro e w12 ⟨A12, c12, rfl, o12, b12⟩
    have d12 := o12.dss
    dsimp only at d12 ⊢
    rw [HQ5.out] at d12 ⊢
    have D12 := Lib.hid d12
    replace HX := Lib.hid (HX.out.below b12)
    replace OW := Lib.hid (OW.out.below b12)
    replace O1 := Lib.hid (O1.out.below b12)
    replace D3 := Lib.hid (D3.out.below b12)
    replace D4 := Lib.hid (D4.out.below b12)
    replace D5 := Lib.hid (D5.out.below b12)
    replace D6 := Lib.hid (D6.out.below b12)
    replace D7 := Lib.hid (D7.out.below b12)
    replace D8 := Lib.hid (D8.out.below b12)
    replace D9 := Lib.hid (D9.out.below b12)
    replace D10 := Lib.hid (D10.out.below b12)
    replace D11 := Lib.hid (D11.out.below b12)
    replace BB := Lib.hid (below3 BB.out b12)
    replace BC := Lib.hid (below3 BC.out b12)
    clear o12 b12 d12
    have te1 : (e1 == e1) = true := by simp
    have te2 : (e2 == e2) = true := by simp
    have te3 : (e3 == e3) = true := by simp
    have te4 : (e4 == e4) = true := by simp
    have te5 : (e5 == e5) = true := by simp
    have tx2 : (x2 == x2) = true := by simp
    have tx3 : (x3 == x3) = true := by simp
    have tx4 : (x4 == x4) = true := by simp
    go_wp2_with fail
    refine (rsame_any A3 A4 q1 c3 q1 c4 p1 p1 _ D3.out D4.out).mono ?_
    rw [sameD_refl]
    rintro e v1 ⟨rfl, b⟩
    clear D3 D4
    replace HX := Lib.hid (HX.out.below b)
    replace OW := Lib.hid (OW.out.below b)
    replace O1 := Lib.hid (O1.out.below b)
    replace D5 := Lib.hid (D5.out.below b)
    replace D6 := Lib.hid (D6.out.below b)
    replace D7 := Lib.hid (D7.out.below b)
    replace D8 := Lib.hid (D8.out.below b)
    replace D9 := Lib.hid (D9.out.below b)
    replace D10 := Lib.hid (D10.out.below b)
    replace D11 := Lib.hid (D11.out.below b)
    replace D12 := Lib.hid (D12.out.below b)
    replace BB := Lib.hid (below3 BB.out b)
    replace BC := Lib.hid (below3 BC.out b)
    clear b
    go_wp2_with fail
    refine (rsame_any A5 A6 q2 c5 q2 c6 p2 p2 _ D5.out D6.out).mono ?_
    rw [sameD_refl]
    rintro e v2 ⟨rfl, b⟩
    clear D5 D6
    replace HX := Lib.hid (HX.out.below b)
    replace OW := Lib.hid (OW.out.below b)
    replace O1 := Lib.hid (O1.out.below b)
    replace D7 := Lib.hid (D7.out.below b)
    replace D8 := Lib.hid (D8.out.below b)
    replace D9 := Lib.hid (D9.out.below b)
    replace D10 := Lib.hid (D10.out.below b)
    replace D11 := Lib.hid (D11.out.below b)
    replace D12 := Lib.hid (D12.out.below b)
    replace BB := Lib.hid (below3 BB.out b)
    replace BC := Lib.hid (below3 BC.out b)
    clear b
    go_wp2_with fail
    refine (rsame_any A7 A8 q3 c7 q3 c8 p3 p3 _ D7.out D8.out).mono ?_
    rw [sameD_refl]
    rintro e v3 ⟨rfl, b⟩
    clear D7 D8
    replace HX := Lib.hid (HX.out.below b)
    replace OW := Lib.hid (OW.out.below b)
    replace O1 := Lib.hid (O1.out.below b)
    replace D9 := Lib.hid (D9.out.below b)
    replace D10 := Lib.hid (D10.out.below b)
    replace D11 := Lib.hid (D11.out.below b)
    replace D12 := Lib.hid (D12.out.below b)
    replace BB := Lib.hid (below3 BB.out b)
    replace BC := Lib.hid (below3 BC.out b)
    clear b
    go_wp2_with fail
    refine (rsame_any A9 A10 q4 c9 q4 c10 p4 p4 _ D9.out D10.out).mono ?_
    rw [sameD_refl]
    rintro e v4 ⟨rfl, b⟩
    clear D9 D10
    replace HX := Lib.hid (HX.out.below b)
    replace OW := Lib.hid (OW.out.below b)
    replace O1 := Lib.hid (O1.out.below b)
    replace D11 := Lib.hid (D11.out.below b)
    replace D12 := Lib.hid (D12.out.below b)
    replace BB := Lib.hid (below3 BB.out b)
    replace BC := Lib.hid (below3 BC.out b)
    clear b
    go_wp2_with fail
    refine (rsame_any A11 A12 q5 c11 q5 c12 p5 p5 _ D11.out D12.out).mono ?_
    rw [sameD_refl]
    rintro e v5 ⟨rfl, b⟩
    clear D11 D12
    replace HX := Lib.hid (HX.out.below b)
    replace OW := Lib.hid (OW.out.below b)
    replace O1 := Lib.hid (O1.out.below b)
    replace BB := Lib.hid (below3 BB.out b)
    replace BC := Lib.hid (below3 BC.out b)
    clear b
    clear te1 te2 te3 te4 te5 tx2 tx3 tx4
    go_wp2_with fail
    go_loopw [179] (fun t wr => ∃ (k : Nat) (m : List Ds), t = .int .i64 (k : Int) ∧ k ≤ q1 ∧ Hid (m.length = q1) ∧ Hid (OwnD 34 wr w2.heap.size A3 c3 m) ∧ Hid (Below w2.heap.size w2 wr)) (fun t _ => q1 - (intOf t).toNat)
    case atStart => exact ⟨0, p1, rfl, Nat.zero_le _, HQ1, O1, BC⟩
    case round =>
      clear O1 BC
      rename World => wr
      obtain ⟨k, m, rfl, hk, HM, OM, BC⟩ := hrel
      by_cases hkn : k < q1
      · have hkm : k < m.length := by rw [HM.out]; exact hkn
        obtain ⟨g, rfl, hg, hg2⟩ := OM.out.some_ (by omega)
        have OR : Hid (RowD 34 wr w2.heap.size g c3 m) := OM
        obtain ⟨⟨a0, a1, a2⟩, f0, f1, f2⟩ := OR.out.at3 hkm
        obtain ⟨x1, hx1⟩ : ∃ z, (dth m k).2.2 = z := ⟨_, rfl⟩
        rw [hx1] at a2
        obtain ⟨v, hv⟩ : ∃ v, IntKind.i64.wrap (x1 + 1) = v := ⟨_, rfl⟩
        have fv : Fit v := hv ▸ wrap_fit _
        have O2 := Lib.hid (OR.out.put1 hkm fv)
        have B2 := Lib.hid (BC.out.setCell (p := ⟨g, k * 3 + 2, none⟩) hg2 (.int .i64 v))
        have HLM := Lib.hid (show (m.set k ((dth m k).1, (dth m k).2.1, v)).length = q1 by rw [List.length_set]; exact HM.out)
        have hcap := OR.out.cap
        have hmm := HM.out
        have hc3 : q1 ≤ c3 ∧ c3 ≤ 9223372036854775807 := by omega
        clear hx1 fv OM OR hcap hmm BC hkm a0 a1 f0 f1
        go_wp2_with fail
        go_roundw
        case rel => exact ⟨k + 1, _, by go_num, by omega, HLM, O2, B2⟩
        case measure => simp only [intOf]; omega
      · have hkn' : k = q1 := by omega
        have HKN := Lib.hid hkn'
        have BF := Lib.hid ((BB2.out).trans (BC.out.mono BB2.out.size))
        have HS := Lib.hid (sameD_refl l ▸ rsame_any A Aw n c n cw l l wr (HX2.out.below BC.out) (OW2.out.below BC.out))
        clear hkn' BC
        go_wp2_with fail
        refine HS.out.mono ?_
        rintro e w9 ⟨rfl, b9⟩
        have BZ := Lib.hid (below3 BF.out b9)
        clear b9
        go_wp2_with fail
        go_ret
        exact ⟨rfl, BZ.out⟩

end Go.Proofs.Ytndbaoiabmldgaa

/-
  The walk of the law RingOnce of layer 7.
-/
import Derived.Test.YtfmiamjbhlglbaaOnB
namespace Go.Proofs.Ytfmiamjbhlglbaa
open Go.RowKit Go.Maps

set_option maxRecDepth 100000 in
set_option maxHeartbeats 4000000 in
theorem lonce_out (rm th : Int) (A : Option Addr) (n c : Nat) (w : World) (hn : n ≤ 9223372036854775807) (h : rm < 1 ∨ 6 < rm ∨ th < 0 ∨ 4 < th ∨ 300 < n) :
    Calls Try.prog 6 #[.int .i64 rm, .int .i64 th, .slice A n c] w (TrueAns w) := by
  have hw : rm < 1 ∨ (¬ rm < 1 ∧ 6 < rm) ∨ (¬ rm < 1 ∧ ¬ 6 < rm ∧ th < 0) ∨ (¬ rm < 1 ∧ ¬ 6 < rm ∧ ¬ th < 0 ∧ 4 < th) ∨ (¬ rm < 1 ∧ ¬ 6 < rm ∧ ¬ th < 0 ∧ ¬ 4 < th ∧ 300 < n) := by omega
  clear h
  rcases hw with g0 | ⟨g0, g1⟩ | ⟨g0, g1, g2⟩ | ⟨g0, g1, g2, g3⟩ | ⟨g0, g1, g2, g3, g4⟩
  all_goals
    go_enter Try.func6, Try.ntmps6
    go_wp2_with fail
    refine (live_any _).mono ?_
    rintro e w1 ⟨rfl, b1⟩
    have B1 := Lib.hid b1
    clear b1
    go_wp2
    go_ret
    exact ⟨rfl, B1.out⟩

theorem made_start {rm th base : Nat} {w0 w : World} {L : Array Bool} {a : Act} (h : a = five a undef undef undef undef undef) (hB : Below base w0 w) (hb : base ≤ w0.heap.size) (l2 : L.getD 2 true = false) (l7 : L.getD 7 true = false) (l8 : L.getD 8 true = false) (l9 : L.getD 9 true = false) (l10 : L.getD 10 true = false) : MadeI rm th base a w0 L a w :=
  ⟨undef, undef, undef, undef, undef, h, hB, hb, 0, 0, 0, 0, fun q => (by rw [l2] at q; cases q), fun q => (by rw [l7] at q; cases q), fun q => (by rw [l8] at q; cases q), fun q => (by rw [l9] at q; cases q), fun q => (by rw [l10] at q; cases q)⟩
/-- The race as it begins. -/
theorem on_start {rm th gM gH b g : Nat} {w0 U : World} (h1 : 1 ≤ rm) (oM : OwnI 2 U w0.heap.size (some ⟨gM, 0, none⟩) (rm + 2) (List.replicate (rm + 2) 0)) (oH : OwnH U w0.heap.size (some ⟨gH, 0, none⟩) (List.replicate (th + 1) noH))
    (oC : CMap U b 0 (fun _ => 0)) (hgb : w0.heap.size ≤ b) (kG : Bk U g 49 zrR) (hg : w0.heap.size ≤ g) (B : Below w0.heap.size w0 U) :
    OnI w0 (set8 U g (.slice (some ⟨gM, 0, none⟩) (rm + 2) (rm + 2)) (.int .i64 0) (.int .i64 rm) (.slice (some ⟨gH, 0, none⟩) (th + 1) (th + 1)) (.map (some b)) (.int .i64 (0 : Nat)) (.int .i64 (1000 : Nat)) (.bool false)) g b (th + 1) rm 0 (some ⟨gM, 0, none⟩) (rm + 2) (List.replicate (rm + 2) 0) gH (th + 1) (List.replicate (th + 1) noH) 0 (fun _ => 0) 0 1000 0 0 := by
  have hgb' := oC.ne_bk kG
  have G8 := grown_set8 U g (.slice (some ⟨gM, 0, none⟩) (rm + 2) (rm + 2)) (.int .i64 0) (.int .i64 rm) (.slice (some ⟨gH, 0, none⟩) (th + 1) (th + 1)) (.map (some b)) (.int .i64 (0 : Nat)) (.int .i64 (1000 : Nat)) (.bool false)
  have hA : ∀ a : Addr, some (⟨gM, 0, none⟩ : Addr) = some a → a.block ≠ g := by
    intro a e
    injection e with e
    subst e
    rintro rfl
    have h0 := oM.at_ (j := 0) (by simp)
    have h2 := kG.cell 0
    rw [h2] at h0
    simp [zrR] at h0
  have hH := hands_no_race (oH.base_ (Nat.zero_le _)) (by simp) kG (by unfold zrR; rfl)
  have hk := bk_set8 kG (.slice (some ⟨gM, 0, none⟩) (rm + 2) (rm + 2)) (.int .i64 0) (.int .i64 rm) (.slice (some ⟨gH, 0, none⟩) (th + 1) (th + 1)) (.map (some b)) (.int .i64 (0 : Nat)) (.int .i64 (1000 : Nat)) (.bool false)
  have hI := race_start rm th h1
  refine ⟨?_, ⟨oM.ints.grown G8 (fun a e e' => by injection e' with e'; exact hA a e e'), (oH.base_ (Nat.zero_le _)).grown G8 (fun k hk a e => by injection hk with hk; injection e with e; subst hk e; exact hH), oC.grown G8 (fun e => by injection e with e; exact hgb' e.symm)⟩, hI, by simp, Nat.le_refl _, fun i hi => ?_, hg, hgb, below_set8 B hg _ _ _ _ _ _ _ _⟩
  · rw [List.length_replicate, List.length_replicate]
    exact hk
  · have e : hth (List.replicate (th + 1) noH) i = noH := by
      simp only [hth, List.getD, List.getElem?_replicate]
      split <;> rfl
    rw [e]
    exact fit0

def racL0 : Array Bool := #[true, true, false, true, true, true, true, false, false, false, false, false]
def racL : Array Bool := #[true, true, true, true, true, true, true, true, true, true, true, false]
def racK : List Nat := [2, 7, 8, 9, 10]
theorem racOut (i : Nat) (h : i ∉ racK) : racL0.getD i true = racL.getD i true := by
  have h1 : ∀ i, i < 12 → i ∉ racK → racL0.getD i true = racL.getD i true := by decide
  by_cases hl : i < 12
  · exact h1 i hl h
  · simp [Array.getD, hl, racL, racL0]

set_option maxRecDepth 100000 in
set_option maxHeartbeats 8000000 in
theorem lonce_go (rm th : Nat) (A0 : Option Addr) (n c0 : Nat) (os : List Int) (w : World) (h1 : 1 ≤ rm) (h6 : rm ≤ 6) (h4 : th ≤ 4) (hn : n ≤ 300) (hx : Octs w A0 n os) :
    Calls Try.prog 6 #[.int .i64 rm, .int .i64 th, .slice A0 n c0] w (TrueAns w) := by
  have HX := Lib.hid hx
  clear hx
  have hr2 : IntKind.i64.wrap ((rm : Int) + 2) = (rm : Int) + 2 := by rw [IntKind.wrap_i64]; omega
  have ht1 : IntKind.i64.wrap ((th : Int) + 1) = (th : Int) + 1 := by rw [IntKind.wrap_i64]; omega
  go_enter Try.func6, Try.ntmps6
  go_wp2_with fail
  refine (live_any _).mono ?_
  rintro e wa ⟨rfl, ba⟩
  have BA := Lib.hid ba
  clear ba
  go_upto_region 6 with fail
  refine wp_region_any (by kernel_rfl) ?_
  refine any_at (i := 0) (d := 42) (v := .int .i64 rm) rfl rfl (by kernel_rfl) (by kernel_rfl) (by kernel_rfl) (fun _ _ _ h => h) (.inl ⟨by kernel_rfl, fun U => by go_simp⟩) ?_
  refine any_at (i := 1) (d := 43) (v := .int .i64 ((rm : Int) + 2)) rfl rfl (by kernel_rfl) (by kernel_rfl) (by kernel_rfl) (fun _ _ _ h => h) (.inl ⟨by kernel_rfl, fun U => by go_simp⟩) ?_
  refine any_at (i := 3) (d := 45) (v := .int .i64 rm) rfl rfl (by kernel_rfl) (by kernel_rfl) (by kernel_rfl) (fun _ _ _ h => h) (.inl ⟨by kernel_rfl, fun U => by go_simp⟩) ?_
  refine any_at (i := 4) (d := 46) (v := .agg #[.int .i64 0, .int .i64 rm]) rfl rfl (by kernel_rfl) (by kernel_rfl) (by kernel_rfl) (fun _ _ _ h => h) (.inl ⟨by kernel_rfl, fun U => by go_simp⟩) ?_
  refine any_at (i := 5) (d := 47) (v := .int .i64 th) rfl rfl (by kernel_rfl) (by kernel_rfl) (by kernel_rfl) (fun _ _ _ h => h) (.inl ⟨by kernel_rfl, fun U => by go_simp⟩) ?_
  refine any_at (i := 6) (d := 48) (v := .int .i64 ((th : Int) + 1)) rfl rfl (by kernel_rfl) (by kernel_rfl) (by kernel_rfl) (fun _ _ _ h => h) (.inl ⟨by kernel_rfl, fun U => by go_simp⟩) ?_
  simp only [Act.put, List.setIfInBounds_toArray, List.set_cons_zero, List.set_cons_succ]
  change wpAny _ _ _ _ (5 + 1) racL0 _ _
  refine any_setA (K := racK) (L1 := racL) (by kernel_rfl) (by decide) (fun _ L a U => MadeI rm th wa.heap.size _ wa L a U) 1 ?hop ?hend 5 _ _ _ (by simp [racL0]) racOut (by kernel_rfl) (made_start (by rfl) (Below.refl _ _).drew (Nat.le_refl _) rfl rfl rfl rfl rfl)
  case hop =>
    intro i hi n' L a U Kc hs hun hed hI hK
    have hs12 : L.size = 12 := hs
    simp only [racK, List.mem_cons, List.not_mem_nil, or_false] at hi
    rcases hi with rfl | rfl | rfl | rfl | rfl
    · have hN := hI.m (by omega) hun (by omega) _ rfl
      obtain ⟨v2, v7, v8, v9, v10, rfl, -⟩ := hI
      have hr := mkM (rm + 2) (by omega) U
      simp only [Int.natCast_add] at hr
      have hr : (Instr.makeSlice 23 (.int .i64 ((rm : Int) + 2)) (.int .i64 ((rm : Int) + 2))).run Try.prog U = .ok (.slice (some ⟨U.heap.size, 0, none⟩) (rm + 2) (rm + 2)) (U.alloc (.cells (madeCells #[.int .i64 0] (rm + 2)) 2)) := hr
      have HK := Lib.hid (hK _ _ hN)
      clear hK hN
      simp only [five, Act.put, List.setIfInBounds_toArray, List.set_cons_zero, List.set_cons_succ] at HK ⊢
      unfold wpOp
      go_simp
      left
      exact HK.out
    · have hN := hI.h (by omega) hun _ rfl
      obtain ⟨v2, v7, v8, v9, v10, rfl, -⟩ := hI
      have hr := mkHands (th + 1) (by omega) U
      simp only [Int.natCast_add] at hr
      have hr : (Instr.makeSlice 46 (.int .i64 ((th : Int) + 1)) (.int .i64 ((th : Int) + 1))).run Try.prog U = .ok (.slice (some ⟨U.heap.size, 0, none⟩) (th + 1) (th + 1)) (U.alloc (.cells (madeCells (hc noH) ((th + 1) * 7)) 27)) := hr
      have HK := Lib.hid (hK _ _ hN)
      clear hK hN
      simp only [five, Act.put, List.setIfInBounds_toArray, List.set_cons_zero, List.set_cons_succ] at HK ⊢
      unfold wpOp
      go_simp
      left
      exact HK.out
    · have hN := hI.b (by omega) hun
      obtain ⟨v2, v7, v8, v9, v10, rfl, -⟩ := hI
      have HK := Lib.hid (hK _ _ hN)
      clear hK hN
      simp only [five, Act.put, List.setIfInBounds_toArray, List.set_cons_zero, List.set_cons_succ] at HK ⊢
      unfold wpOp
      go_simp
      left
      rw [run_makeMap]
      exact HK.out
    · have l2 : L.getD 2 true = true := getD_true_of (hed _ rfl ⟨2, .data⟩ (by simp) (by kernel_rfl))
      have l7 : L.getD 7 true = true := getD_true_of (hed _ rfl ⟨7, .data⟩ (by simp) (by kernel_rfl))
      have l8 : L.getD 8 true = true := getD_true_of (hed _ rfl ⟨8, .data⟩ (by simp) (by kernel_rfl))
      obtain ⟨gM, gH, b, v9, v10, rfl, hN⟩ := hI.s (by omega) l2 l7 l8
      have HK := Lib.hid (hK _ _ hN)
      clear hK hN hI
      unfold raceC at HK
      simp only [five, Act.put, List.setIfInBounds_toArray, List.set_cons_zero, List.set_cons_succ] at HK ⊢
      unfold wpOp
      go_simp
      left
      exact HK.out
    · have hN := hI.g (by omega)
      obtain ⟨v2, v7, v8, v9, v10, rfl, -⟩ := hI
      have HK := Lib.hid (hK _ _ hN)
      clear hK hN
      simp only [five, Act.put, List.setIfInBounds_toArray, List.set_cons_zero, List.set_cons_succ] at HK ⊢
      unfold wpOp
      go_simp
      left
      exact HK.out
  case hend =>
    intro a U hI
    obtain ⟨v2, v7, v8, v9, v10, rfl, B, hb, gM, gH, b, g, f2, f7, f8, f9, f10⟩ := hI
    obtain ⟨rfl, oM⟩ := f2 rfl
    obtain ⟨rfl, oH⟩ := f7 rfl
    obtain ⟨rfl, oC, hgb⟩ := f8 rfl
    obtain ⟨-, -, -, rfl⟩ := f9 rfl
    obtain ⟨rfl, kG, hg⟩ := f10 rfl
    clear f2 f7 f8 f9 f10
    have onI := on_start (rm := rm) (th := th) h1 oM oH oC hgb kG hg B
    obtain ⟨X, hX⟩ : ∃ X, set8 U g (.slice (some ⟨gM, 0, none⟩) (rm + 2) (rm + 2)) (.int .i64 0) (.int .i64 rm) (.slice (some ⟨gH, 0, none⟩) (th + 1) (th + 1)) (.map (some b)) (.int .i64 0) (.int .i64 1000) (.bool false) = X := ⟨_, rfl⟩
    have onI : OnI wa (set8 U g (.slice (some ⟨gM, 0, none⟩) (rm + 2) (rm + 2)) (.int .i64 0) (.int .i64 rm) (.slice (some ⟨gH, 0, none⟩) (th + 1) (th + 1)) (.map (some b)) (.int .i64 0) (.int .i64 1000) (.bool false)) g b (th + 1) rm 0 (some ⟨gM, 0, none⟩) (rm + 2) (List.replicate (rm + 2) 0) gH (th + 1) (List.replicate (th + 1) noH) 0 (fun _ => 0) 0 1000 0 0 := onI
    rw [hX] at onI
    have ONI := Lib.hid onI
    unfold set8 at hX
    have HX8 := Lib.hid hX
    clear hX
    unfold zrR at kG
    obtain ⟨x0, x1, x2, x3, x4, x5, x6, x7⟩ := kG.c8
    obtain ⟨g0, g1, g2, g3, g4, g5, g6, g7⟩ := kG.f8
    have lg := kG.lt
    clear oM oH oC kG onI
    unfold raceC
    simp only [five, Act.put, List.setIfInBounds_toArray, List.set_cons_zero, List.set_cons_succ]
    refine wpAny_all (rs := [11]) (by kernel_rfl) (by simp) ?_
    intro i hi
    simp only [List.mem_cons, List.not_mem_nil, or_false] at hi
    subst hi
    unfold wpOp
    go_simp
    left
    refine wpAny_done (by kernel_rfl) ?_ _
    rw [HX8.out]
    clear HX8 x0 x1 x2 x3 x4 x5 x6 x7 g0 g1 g2 g3 g4 g5 g6 g7 lg B hb hgb hg
    go_wp2_with fail
    go_loopw [54] (fun t wr => ∃ j : Nat, j ≤ n ∧ t = .int .i64 j ∧ ∃ mA mc ms gh hcp hs nn G nx left tp lb, Hid (OnI wa wr g b (th + 1) rm j mA mc ms gh hcp hs nn G nx left tp lb)) (fun t _ => n - (intOf t).toNat)
    case atStart => exact ⟨0, Nat.zero_le _, rfl, some ⟨gM, 0, none⟩, rm + 2, List.replicate (rm + 2) 0, gH, th + 1, List.replicate (th + 1) noH, 0, fun _ => 0, 0, 1000, 0, 0, ONI⟩
    case round =>
      rename World => wo
      clear onI ONI
      obtain ⟨j, hj, rfl, mA, mc, ms, gh, hcp, hs, nn, G, nx, left, tp, lb, ON⟩ := hrel
      by_cases hlt : j < n
      · obtain ⟨bO, oO, rfl, hbO, hcO⟩ := HX.out.2.2.2 (by omega)
        have hOct := HX.out.oct j
        have cO := (ON.out.2.2.2.2.2.2.2.2.cell (p := ⟨bO, oO + j, none⟩) (by have := BA.out.size; show bO < _; omega)).trans ((BA.out.cell (p := ⟨bO, oO + j, none⟩) hbO).trans (hcO j hlt))
        obtain ⟨q, hq⟩ : ∃ q, nth os j = q := ⟨_, rfl⟩
        rw [hq] at cO hOct
        clear hcO hq
        obtain ⟨r, hr15, hrun⟩ := and_u8 q 15 (by omega)
        obtain ⟨s, hs16, hrun2⟩ := and_u8 q 16 (by omega)
        simp only [show ((15 : Nat) : Int) = 15 from rfl] at hrun
        simp only [show ((16 : Nat) : Int) = 16 from rfl] at hrun2
        have hrem := rem_i64 r th
        have hwr : IntKind.i64.wrap (r : Int) = r := by rw [IntKind.wrap_i64]; omega
        have htz : ¬ ((th : Int) + 1 = 0) := by omega
        have hwho : r % (th + 1) < th + 1 := Nat.mod_lt _ (by omega)
        obtain ⟨who, hwh⟩ : ∃ who, r % (th + 1) = who := ⟨_, rfl⟩
        rw [hwh] at hrem hwho
        clear hwh hr15 hs16
        go_upto_region 10 with fail
        have k0 := ON.out.1
        unfold raceC at k0
        obtain ⟨x0, x1, x2, x3, x4, x5, x6, x7⟩ := k0.c8
        have lg := k0.lt
        clear k0
        go_still_tail 10, (by kernel_rfl)
        change wpList _ _ _ _ _ wo.drew
        have hstp := step_all mA mc ms gh hcp hs b nn G rm nx left tp lb who (decide (0 < s)) wo.drew (ON.out.2.1.below (Below.refl _ _).drew) ON.out.2.2.1 ON.out.2.2.2.2.2.1 (by have := ON.out.2.2.2.1; omega) (by have := ON.out.2.2.2.1; omega) (ON.out.2.2.1.mayq h6) (by have := ON.out.2.2.2.2.1; omega)
        unfold raceC at hstp
        have HST := Lib.hid hstp
        clear hstp
        go_wp2_with fail
        refine HST.out.mono ?_
        rintro e w2 ⟨ms2, hs2, G2, n2, nx2, left2, tp2, lb2, st, I2, hN2, hn2, F2⟩
        obtain ⟨mA2, mc2, gh2, hcp2, rfl, k2, on2⟩ := OnI.stored (w := wo.drew) (OnI.drew ON.out) st I2 (by have := ON.out.2.2.2.1; omega) (by have := ON.out.2.2.2.2.1; omega) F2
        clear st I2 F2 HST hrun hrun2 htz hwr hOct hrem x0 x1 x2 x3 x4 x5 x6 x7 lg hN2
        have ON2 := Lib.hid on2
        clear on2
        unfold raceC at k2
        unfold raceC
        obtain ⟨V, hV⟩ : ∃ V, set8 w2 g (.slice mA2 ms2.length mc2) (.int .i64 0) (.int .i64 rm) (.slice (some ⟨gh2, 0, none⟩) hs2.length hcp2) (.map (some b)) (.int .i64 nx2) (.int .i64 left2) (.bool false) = V := ⟨_, rfl⟩
        rw [hV] at ON2
        unfold set8 at hV
        have HV := Lib.hid hV
        clear hV
        obtain ⟨x0, x1, x2, x3, x4, x5, x6, x7⟩ := k2.c8
        obtain ⟨f0, f1, f2, f3, f4, f5, f6, f7⟩ := k2.f8
        have lg := k2.lt
        clear k2
        go_wp2
        go_roundw
        case rel =>
          rw [HV.out]
          exact ⟨j + 1, by omega, by go_num, mA2, mc2, ms2, gh2, hcp2, hs2, n2, G2, nx2, left2, tp2, lb2, ON2⟩
        case measure => simp [intOf]; omega
      · obtain rfl : j = n := by omega
        clear hj hlt
        have k0 := ON.out.1
        unfold raceC at k0
        have x6 : _ = some (Value.int .i64 left) := k0.cell 6
        have f6 := k0.frozen 6
        have lg := k0.lt
        have ON2 := Lib.hid (OnI.no_more ON.out)
        have hl := ON.out.2.2.2.1
        clear k0
        obtain ⟨V, hV⟩ : ∃ V, wo.setCell ⟨g, 6, none⟩ (.int .i64 0) = V := ⟨_, rfl⟩
        rw [hV] at ON2
        have HV := Lib.hid hV
        clear hV
        go_upto_region 13 with fail
        rw [HV.out]
        clear HV x6 f6 lg ON
        have k0 := ON2.out.1
        unfold raceC at k0
        have x3 : _ = some (Value.slice (some ⟨gh, 0, none⟩) hs.length hcp) := k0.cell 3
        rw [hl] at x3
        have lg := k0.lt
        have OUT := Lib.hid (OutR.start ON2.out)
        clear k0 hl ON2
        go_wp2_with fail
        go_loopw [74] (fun t wr => ∃ who : Nat, who ≤ th + 1 ∧ t = .int .i64 who ∧ Hid (OutR wa wr g b (th + 1) rm (j + 10 * who) who)) (fun t _ => th + 1 - (intOf t).toNat)
        case atStart => exact ⟨0, Nat.zero_le _, rfl, OUT⟩
        case round =>
          rename World => wq
          clear OUT x3 lg
          obtain ⟨who, hwho, rfl, OUT⟩ := hrel
          by_cases hwl : who < th + 1
          · have hdb : decide ((who : Int) < (th : Int) + 1) = true := decide_eq_true (by omega)
            go_wp2_with fail
            go_loopw [77] (fun t wr => ∃ i : Nat, i ≤ 10 ∧ t = .int .i64 i ∧ Hid (InnR wa wr g b (th + 1) rm (j + 10 * who + i) who i)) (fun t _ => 10 - (intOf t).toNat)
            case atStart => exact ⟨0, Nat.zero_le _, rfl, Lib.hid (OUT.out.inn hwl)⟩
            case round =>
              rename World => wi
              clear OUT
              obtain ⟨i, hi, rfl, INN⟩ := hrel
              by_cases hil : i < 10
              · obtain ⟨mA, mc, ms, gh, hcp, hs, nn, G, nx, tp, lb, ON, hdn, hfr⟩ := INN.out
                have ON := Lib.hid ON
                have HDN := Lib.hid hdn
                have HFR := Lib.hid hfr
                have hl := ON.out.2.2.2.1
                have k0 := ON.out.1
                unfold raceC at k0
                have hw' : who < hs.length := by omega
                obtain ⟨hd, hh⟩ : ∃ hd, hth hs who = hd := ⟨_, rfl⟩
                obtain ⟨kk, p, v, t, bb, wn, s⟩ := hd
                have ha7 := (ON.out.2.1.h.at_ hw').1
                rw [hh] at ha7
                have c0 : _ = some (Value.int .i64 kk) := ha7 0 (by omega)
                have c6 : _ = some (Value.int .i64 s) := ha7 6 (by omega)
                rw [Nat.add_zero] at c0
                obtain ⟨x0, x1, x2, x3, x4, x5, x6, x7⟩ := k0.c8
                have lg := k0.lt
                rw [hl] at x3
                have HL := Lib.hid hl
                have HH := Lib.hid hh
                clear k0 ha7 hdn hfr hh hl hw' INN
                by_cases hk : kk = 0
                · have hkb : (kk != 0) = false := by simpa using hk
                  have hk2 : (kk == 0) = true := by simpa using hk
                  clear hk
                  go_wp2
                  go_roundw
                  case rel => exact ⟨i + 1, by omega, by go_num, Lib.hid ⟨mA, mc, ms, gh, hcp, hs, nn, G, nx, tp, lb, OnI.more ON.out (by omega), HDN.out, FarT.idle (by rw [HH.out]; exact .inl (by simpa using hk2))⟩⟩
                  case measure => simp [intOf]; omega
                · have hkb : (kk != 0) = true := by simpa using hk
                  have hk2 : (kk == 0) = false := by simpa using hk
                  by_cases hs0 : s = 0
                  · have hsb : (s == 0) = true := by simpa using hs0
                    have hstp := step_go mA mc ms gh hcp hs b nn G rm nx 0 tp lb who false wi ON.out.2.1 ON.out.2.2.1 ON.out.2.2.2.2.2.1 (by have := HL.out; omega) (by have := HL.out; omega) (ON.out.2.2.1.mayq h6) (by have := ON.out.2.2.2.2.1; omega) (by rw [HH.out]; exact hk) (by rw [HH.out]; exact hs0)
                    unfold raceC at hstp
                    rw [HL.out] at hstp
                    have HST := Lib.hid hstp
                    have HS := Lib.hid hs0
                    have HK := Lib.hid hk
                    clear hstp hs0 hk
                    go_wp2_with fail
                    refine HST.out.mono ?_
                    rintro e w2 ⟨ms2, h2, n2, tp2, lb2, st, I2, hp2, hkd, hn2, F2⟩
                    obtain ⟨mA2, mc2, gh2, hcp2, rfl, k2, on2⟩ := OnI.stored ON.out st I2 (by rw [List.length_set]; exact HL.out) (by have := ON.out.2.2.2.2.1; omega) (fit_set ON.out.2.2.2.2.2.1 who F2)
                    have hfr2 : FarT (hth (hs.set who h2) who) (i + 1) := by
                      rw [hth_at _ (by have := HL.out; omega)]
                      rw [HH.out] at hp2
                      have f0 := HFR.out
                      rw [HH.out] at f0
                      exact f0.step HK.out HS.out hp2
                    have hdn2 : DoneTo (hs.set who h2) who := HDN.out.set (Nat.le_refl _) (by have := HL.out; omega) h2
                    have INN2 : Hid (InnR wa _ g b (th + 1) rm (j + 10 * who + (i + 1)) who (i + 1)) := Lib.hid ⟨mA2, mc2, ms2, gh2, hcp2, _, n2, _, nx, tp2, lb2, on2, hdn2, hfr2⟩
                    have HL2 : Hid ((hs.set who h2).length = th + 1) := Lib.hid (by rw [List.length_set]; exact HL.out)
                    clear st I2 F2 HST hp2 hkd hn2 hfr2 hdn2 on2 x0 x1 x2 x3 x4 x5 x6 x7 lg c0 c6
                    rw [HL2.out] at INN2
                    unfold raceC at k2
                    rw [HL.out] at k2
                    unfold raceC
                    rw [HL2.out]
                    obtain ⟨V, hV⟩ : ∃ V, set8 w2 g (.slice mA2 ms2.length mc2) (.int .i64 0) (.int .i64 rm) (.slice (some ⟨gh2, 0, none⟩) (th + 1) hcp2) (.map (some b)) (.int .i64 nx) (.int .i64 (0 : Nat)) (.bool false) = V := ⟨_, rfl⟩
                    rw [hV] at INN2
                    simp only [show ((0 : Nat) : Int) = 0 from rfl] at hV k2
                    unfold set8 at hV
                    have HV := Lib.hid hV
                    clear hV
                    obtain ⟨x0, x1, x2, x3, x4, x5, x6, x7⟩ := k2.c8
                    obtain ⟨f0, f1, f2, f3, f4, f5, f6, f7⟩ := k2.f8
                    have lg := k2.lt
                    clear k2
                    go_wp2
                    go_roundw
                    case rel =>
                      rw [HV.out]
                      exact ⟨i + 1, by omega, by go_num, INN2⟩
                    case measure => simp [intOf]; omega
                  · have hsb : (s == 0) = false := by simpa using hs0
                    have HS := Lib.hid hs0
                    clear hs0 hk
                    go_wp2
                    go_roundw
                    case rel => exact ⟨i + 1, by omega, by go_num, Lib.hid ⟨mA, mc, ms, gh, hcp, hs, nn, G, nx, tp, lb, OnI.more ON.out (by omega), HDN.out, FarT.idle (by rw [HH.out]; exact .inr HS.out)⟩⟩
                    case measure => simp [intOf]; omega
              · obtain rfl : i = 10 := by omega
                have OUT := Lib.hid (INN.out.out hwl)
                clear INN hi hil
                go_wp2
                go_roundw
                case rel => exact ⟨who + 1, by omega, by go_num, Lib.hid (by rw [show j + 10 * (who + 1) = j + 10 * who + 10 by omega]; exact OUT.out)⟩
                case measure => simp [intOf]; omega
          · obtain rfl : who = th + 1 := by omega
            clear hwho hwl
            obtain ⟨mA, mc, ms, gh, hcp, hs, nn, G, nx, tp, lb, ON, hdn⟩ := OUT.out
            have hid0 := hdn 0 (by omega)
            have hlst := ON.2.2.1.list hid0 (ON.2.2.1.mayq h6)
            have honl := ON.2.2.1.onl hid0
            have hnn := ON.2.2.2.2.1
            have hthl := thereL_len ms rm tp lb
            have hend := ON.2.2.1.end_ hid0
            obtain ⟨l, hl⟩ : ∃ l, thereL ms rm tp lb = l := ⟨_, rfl⟩
            rw [hl] at hlst honl hthl
            have hll : l.length ≤ 10 := by have := hend.2.2.2.1; omega
            have hnx : (nx : Int) ≤ 1000 := by have := ON.2.2.1.few; omega
            have HNX := Lib.hid hnx
            have HLL := Lib.hid hll
            have HNN := Lib.hid hnn
            have HONL := Lib.hid honl
            have HLIST := Lib.hid hlst
            have k0 := ON.1
            unfold raceC at k0
            have KR := Lib.hid k0
            have HMP := Lib.hid ON.2.1.g
            have HBB := Lib.hid ON.2.2.2.2.2.2.2.1
            have HBL := Lib.hid ON.2.2.2.2.2.2.2.2
            have LA := Lib.hid (list_any mA ms.length mc 0 rm ms wq ON.2.1.m fit0 (by unfold Fit; omega))
            obtain ⟨x0, x1, x2, x3, x4, x5, x6, x7⟩ := k0.c8
            have lg := k0.lt
            clear k0 OUT ON hdn hid0 hlst honl hnn hthl hend hl hll hnx
            go_wp2_with fail
            refine LA.out.mono ?_
            rw [HLIST.out]
            rintro e wl ⟨A2, c2, rfl, o2, b2⟩
            clear LA HLIST x0 x1 x2 x3 x4 x5 x6 x7 lg
            simp only []
            have EI : Hid (EndI wa wl g b #[.slice mA ms.length mc, .int .i64 0, .int .i64 rm, .slice (some ⟨gh, 0, none⟩) hs.length hcp, .map (some b), .int .i64 nx, .int .i64 (0 : Nat), .bool false] A2 l nn G) :=
              Lib.hid ⟨KR.out.below b2 KR.out.lt, o2.ints, HMP.out.below b2, HBB.out, below3 HBL.out b2⟩
            clear KR HMP HBB HBL o2 b2
            have e7 : _ = some (Value.bool false) := EI.out.rc.cell 7
            have lg := EI.out.rc.lt
            go_wp2_with fail
            clear e7 lg
            go_loopw [14, 16, 116] (fun u14 _ t wr => ∃ k : Nat, k ≤ l.length ∧ t = .int .i64 k ∧ u14 = .int .i64 (lastK l k) ∧ Hid (EndI wa wr g b #[.slice mA ms.length mc, .int .i64 0, .int .i64 rm, .slice (some ⟨gh, 0, none⟩) hs.length hcp, .map (some b), .int .i64 nx, .int .i64 (0 : Nat), .bool false] A2 l (nn + k) (gotK G l k))) (fun _ _ t _ => l.length - (intOf t).toNat)
            case atStart => exact ⟨0, Nat.zero_le _, rfl, rfl, EI⟩
            case round =>
              rename World => wk
              clear EI
              obtain ⟨k, hk, rfl, rfl, EI⟩ := hrel
              by_cases hkl : k < l.length
              · obtain ⟨bL, oL, rfl, -, hcL⟩ := EI.out.ls.2.2.2 (by omega)
                have cL := hcL k hkl
                have hfx : Fit (nth l k) := EI.out.ls.2.2.1 _ (by rw [nth_get hkl]; exact List.getElem_mem hkl)
                obtain ⟨hlast, hg0⟩ := HONL.out.next hkl
                have hlk := EI.out.mp.lookup hfx
                obtain ⟨w2, hup, hm2, hg2⟩ := EI.out.mp.update hfx (by have := HLL.out; have := HNN.out; omega) (by rw [hg0]; omega)
                rw [hg0] at hlk hup
                simp only [Int.zero_add, show ((0 : Nat) : Int) = 0 from rfl] at hlk hup
                have hnle : ¬ (nth l k ≤ lastK l k) := by omega
                have hk11 : k < 11 := by have := HLL.out; omega
                have EI2 : Hid (EndI wa w2 g b #[.slice mA ms.length mc, .int .i64 0, .int .i64 rm, .slice (some ⟨gh, 0, none⟩) hs.length hcp, .map (some b), .int .i64 nx, .int .i64 (0 : Nat), .bool false] (some ⟨bL, oL, none⟩) l (nn + (k + 1)) (gotK G l (k + 1))) := Lib.hid (EI.out.step (by omega) hg2 hm2)
                have hls : Hid (nth l k = lastK l (k + 1)) := Lib.hid (lastK_succ l k).symm
                obtain ⟨z, hz⟩ : ∃ z, nth l k = z := ⟨_, rfl⟩
                rw [hz] at cL hlk hup hnle hls
                obtain ⟨y, hy⟩ : ∃ y, lastK l k = y := ⟨_, rfl⟩
                rw [hy] at hnle
                have HZ := Lib.hid hz
                have hnb : decide (z ≤ y) = false := decide_eq_false hnle
                have e4 : _ = some (Value.map (some b)) := EI.out.rc.cell 4
                have lg := EI.out.rc.lt
                rw [hy]
                clear hcL hfx hlast hg0 hg2 hm2 hz hy EI
                go_wp2
                go_roundw
                case rel => exact ⟨k + 1, by omega, by go_num, by rw [hls.out], EI2⟩
                case measure => simp [intOf]; omega
              · obtain rfl : k = l.length := by omega
                clear hk hkl
                obtain ⟨rc, ls, mp, hbb, bl⟩ := EI.out
                obtain ⟨D, ks, hD⟩ := mp
                have HD := Lib.hid hD
                have RC := Lib.hid rc
                have e4 : _ = some (Value.map (some b)) := rc.cell 4
                have lg := rc.lt
                have BL := Lib.hid bl
                have HBW := Lib.hid hD.own.lt
                clear EI rc ls hD hbb bl
                obtain ⟨w0, hrun0, hrg0, hg0, hs0⟩ := HD.out.own.range Try.lawI64C (t := 47) Try.underlying47
                go_wp2_with fail
                clear e4 lg hrun0
                go_loopw [17] (fun _ wr => ∃ (left : Lit → Bool) (cnt : Nat), wr.ranges Try.prog 2 (plainElem Try.prog 3) b wk.heap.size (nn + l.length) D left cnt ∧ (∀ x, left (.int .i64 x) = true → Maps.has D (.int .i64 x) = true) ∧ Hid (Below wk.heap.size wk wr)) (fun _ wr => wr.rangeLeft b wk.heap.size)
                case atStart => exact ⟨_, _, hrg0, fun x h => h, Lib.hid (below_grown (Below.refl wk.heap.size wk) hg0 (fun j hj => by cases hj) (Nat.le_refl _))⟩
                case round =>
                  rename World => wm
                  clear hrg0 hg0 hs0
                  obtain ⟨left, cnt, hrg, hleft, HB⟩ := hrel
                  have rc2 := Lib.hid (RC.out.below HB.out RC.out.lt)
                  rcases hrg.next Try.lawI64C 0 with ⟨-, hl0, hrunN⟩ | ⟨key, vv, kl, yy, w1, cnt1, hkey, hlx, hvv, hat, hrunN, hrg1, hlt, hg1, hs1, hen⟩
                  · have hlen := hrg.owns.len (ty := 3) Try.underlying47
                    have hkn : ks.length = nx := keys_len ks HD.out.nd nx (fun x => by
                      rw [HD.out.pos x]
                      have h := HONL.out.end_ x
                      exact ⟨h.2, fun q => by rw [h.1 q]; omega⟩)
                    rw [HD.out.size, hkn] at hlen
                    have e4 : _ = some (Value.map (some b)) := rc2.out.cell 4
                    have e5 : _ = some (Value.int .i64 nx) := rc2.out.cell 5
                    have lg := rc2.out.lt
                    clear hkn hrg hleft hl0
                    go_wp2
                    go_ret
                    exact ⟨rfl, below3 (below3 BA.out BL.out) HB.out⟩
                  · obtain ⟨x, rfl, rfl, -⟩ := Go.Maps.keyOf_int_inv Try.underlying2 hkey
                    obtain ⟨c, rfl, rfl, -⟩ := plainElem_int_inv Try.underlying3 hvv
                    clear hkey hvv
                    have hGx : gotK G l l.length x ≠ 0 := (HD.out.pos x).1 (by have h1 := hleft x hlx; rw [HD.out.has] at h1; exact of_decide_eq_true h1)
                    obtain ⟨hx1, hx2⟩ := (HONL.out.end_ x).2 hGx
                    have hc1 := (HONL.out.end_ x).1 ⟨hx1, hx2⟩
                    have hcc : c = 1 := by
                      have h1 := (hat (.lit (.int .i64 0))).symm.trans (HD.out.at_ x)
                      injection h1 with h1
                      injection h1 with _ h1
                      rw [h1, hc1]; rfl
                    subst hcc
                    have HB1 : Hid (Below wk.heap.size wk w1) := Lib.hid (below_grown HB.out hg1 (fun j hj => by injection hj with hj; omega) HB.out.size)
                    have rc3 := Lib.hid (RC.out.below HB1.out RC.out.lt)
                    have e5 : _ = some (Value.int .i64 nx) := rc3.out.cell 5
                    have lg := rc3.out.lt
                    have hm1 := hrg.left_eq
                    have hm2 := hrg1.left_eq
                    have hleft2 : ∀ y, (fun z : Lit => left z && !z.sameKey (.int .i64 x)) (.int .i64 y) = true → Maps.has D (.int .i64 y) = true := fun y hy => by
                      simp only [Bool.and_eq_true] at hy
                      exact hleft y hy.1
                    have HM : Hid (w1.rangeLeft b wk.heap.size < wm.rangeLeft b wk.heap.size) := Lib.hid (by rw [hm1, hm2]; exact hlt)
                    have HLF := Lib.hid hleft2
                    have HRG := Lib.hid hrg1
                    clear hGx hc1 hat hm1 hm2 hleft2 hrg1 hleft hrg hlx hg1
                    go_wp2
                    go_roundw
                    case rel => exact ⟨_, ⟨_, HRG.out⟩, HLF.out⟩
                    case measure => exact HM.out

theorem lonce_any (rm th : Int) (A : Option Addr) (n c : Nat) (os : List Int) (w : World) (hm : n ≤ 9223372036854775807) (hx : n ≤ 140737488351232 → Octs w A n os) :
    Calls Try.prog 6 #[.int .i64 rm, .int .i64 th, .slice A n c] w (TrueAns w) := by
  by_cases h : rm < 1 ∨ 6 < rm ∨ th < 0 ∨ 4 < th ∨ 300 < n
  · exact lonce_out rm th A n c w hm h
  · obtain ⟨r, rfl⟩ : ∃ r : Nat, rm = r := ⟨rm.toNat, by omega⟩
    obtain ⟨t, rfl⟩ : ∃ t : Nat, th = t := ⟨th.toNat, by omega⟩
    exact lonce_go r t A n c os w (by omega) (by omega) (by omega) (by omega) (hx (by omega))

end Go.Proofs.Ytfmiamjbhlglbaa

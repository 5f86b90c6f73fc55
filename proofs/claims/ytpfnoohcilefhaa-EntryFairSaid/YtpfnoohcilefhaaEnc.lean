/-
  Layer 19, the document: Read.
-/
import Derived.Test.YtpfnoohcilefhaaEna
namespace Go.Proofs.Ytpfnoohcilefhaa
open Go.RowKit

/-- Entries are handed back. -/
def ReadP (r : List I3 × Int) (w : World) (e : Ending) (w' : World) : Prop := ∃ A c, e = .returned (.tuple #[.slice A r.1.length c, .int .i64 r.2]) ∧ OwnP 45 w' w.heap.size A c r.1 ∧ Below w.heap.size w w'
theorem Octs.at_en {w : World} {A : Option Addr} {n : Nat} {zs : List Int} (h : Octs w A n zs) {j : Nat} (hj : j < n) : ∃ b o, A = some ⟨b, o, none⟩ ∧ b < w.heap.size ∧ ∀ i, i < n → w.cell? ⟨b, o + i, none⟩ = some (.int .u8 (nth zs i)) ∧ Oct (nth zs i) := by
  obtain ⟨b, o, e, hb, hc⟩ := h.2.2.2 (by omega)
  exact ⟨b, o, e, hb, fun i hi => ⟨hc i hi, h.oct i⟩⟩

set_option maxHeartbeats 4000000 in
theorem rreadE_any (A : Option Addr) (n c : Nat) (bs : List Int) (w : World) (hx : Octs w A n bs) :
    Calls Try.prog 17 #[.slice A n c] w (ReadP (rdR bs) w) := by
  have HX := Lib.hid hx
  have LX := Lib.hid hx.1
  have hnn : n ≤ 9223372036854775807 := by have := hx.2.1; omega
  clear hx
  by_cases h : 196608 < bs.length
  · rw [rdR_long h]
    have t0 : decide (196608 < (n : Int)) = true := decide_eq_true (by have := LX.out; omega)
    have t0n : decide (196608 < n) = true := decide_eq_true (by have := LX.out; omega)
    clear h
    go_enter Try.func17, Try.ntmps17
    go_wp2_with fail
    exact bodyPost_ret (results_tmp2 rfl _ _ _) rfl (by exact ⟨none, 0, rfl, OwnP.nil_ _ _ _, Below.refl _ _⟩)
  · by_cases k : bs.length % 3 ≠ 0
    · rw [rdR_odd h k]
      have t0 : decide (196608 < (n : Int)) = false := decide_eq_false (by have := LX.out; omega)
      have t0n : decide (196608 < n) = false := decide_eq_false (by have := LX.out; omega)
      have hm : ((n : Int) % 3 != 0) = true := by simp; have := LX.out; omega
      clear h k
      go_enter Try.func17, Try.ntmps17
      go_wp2_with fail
      exact bodyPost_ret (results_tmp2 rfl _ _ _) rfl (by exact ⟨none, 0, rfl, OwnP.nil_ _ _ _, Below.refl _ _⟩)
    · obtain ⟨N, hN⟩ : ∃ N, n = 3 * N := ⟨n / 3, by have := LX.out; omega⟩
      have HNL : Hid (bs.length = 3 * N) := Lib.hid (by rw [LX.out, hN])
      have HLN : Hid ((lsE bs).length = N) := Lib.hid (txE_lsE N bs HNL.out).2
      have HH := Lib.hid h
      have HK := Lib.hid k
      have hn6 : n ≤ 196608 := by have := LX.out; omega
      have HN3 := Lib.hid hN
      have t0 : decide (196608 < (n : Int)) = false := decide_eq_false (by have := LX.out; omega)
      have t0n : decide (196608 < n) = false := decide_eq_false (by have := LX.out; omega)
      have hm : ((n : Int) % 3 != 0) = false := by simp; omega
      clear h k hN
      go_enter Try.func17, Try.ntmps17
      go_wp2_with fail
      go_loopw [4, 5] (fun u t wr => ∃ (k : Nat) (D : Option Addr) (d : Nat), 3 * k ≤ n ∧ t = .int .i64 ((3 * k : Nat) : Int) ∧ u = .slice D ((lsE bs).take k).length d ∧ Hid (∀ j, j < k → mayE (ith (lsE bs) j) = true) ∧ Hid (Below w.heap.size w wr) ∧ Hid (OwnP 45 wr w.heap.size D d ((lsE bs).take k))) (fun _ t _ => n - (intOf t).toNat)
      case atStart => exact ⟨0, none, 0, Nat.zero_le _, rfl, rfl, Lib.hid (fun j hj => absurd hj (Nat.not_lt_zero _)), Lib.hid (Below.refl _ _), Lib.hid (OwnP.nil_ _ _ _)⟩
      case round =>
        rename World => wr
        obtain ⟨k, D, d, hk, rfl, rfl, OK, BB, OD⟩ := hrel
        by_cases hkn : 3 * k < n
        · obtain ⟨b, o, hA, hb, hc⟩ := (HX.out.below BB.out).at_en (j := 3 * k) hkn
          subst hA
          obtain ⟨c0, f0⟩ := hc (3 * k) hkn
          obtain ⟨c1, f1⟩ := hc (3 * k + 1) (by have := HN3.out; omega)
          obtain ⟨c2, f2⟩ := hc (3 * k + 2) (by have := HN3.out; omega)
          have hat := lsE_at N bs HNL.out k (by have := HN3.out; omega)
          obtain ⟨x0, h0⟩ : ∃ x, nth bs (3 * k) = x := ⟨_, rfl⟩
          obtain ⟨x1, h1⟩ : ∃ x, nth bs (3 * k + 1) = x := ⟨_, rfl⟩
          obtain ⟨x2, h2⟩ : ∃ x, nth bs (3 * k + 2) = x := ⟨_, rfl⟩
          rw [h0] at c0 f0 hat
          rw [h1] at c1 f1 hat
          rw [h2] at c2 f2 hat
          unfold Oct at f0 f1 f2
          have FX : Hid (FitI (x0, x1, x2)) := Lib.hid (by unfold FitI Fit; dsimp only; omega)
          have HAT := Lib.hid hat
          have hkl : k < (lsE bs).length := by rw [HLN.out]; have := HN3.out; omega
          have hnx := ith_takeE hkl
          rw [hat] at hnx
          have HNX := Lib.hid hnx
          have hle : ((lsE bs).take k).length = k := by rw [List.length_take]; omega
          obtain ⟨v, hv⟩ : ∃ v, (lsE bs).take k = v := ⟨_, rfl⟩
          rw [hv] at hle OD HNX ⊢
          have HLE := Lib.hid hle
          have w0 : IntKind.i64.wrap x0 = x0 := by rw [IntKind.wrap_i64]; omega
          have w1 : IntKind.i64.wrap x1 = x1 := by rw [IntKind.wrap_i64]; omega
          have w2 : IntKind.i64.wrap x2 = x2 := by rw [IntKind.wrap_i64]; omega
          clear hc h0 h1 h2 hat hkl hnx hle hv f0 f1 f2
          obtain ⟨i, hi⟩ : ∃ i, 3 * k = i := ⟨_, rfl⟩
          have HI := Lib.hid hi
          have hin : i + 2 < n := by have := HN3.out; omega
          rw [hi] at c0 c1 c2 hkn ⊢
          clear hi
          go_upto_region 9 with fail
          have e1 : IntKind.i64.wrap ((i : Int) + 1) = (i : Int) + 1 := by rw [IntKind.wrap_i64]; omega
          have e2 : IntKind.i64.wrap ((i : Int) + 2) = (i : Int) + 2 := by rw [IntKind.wrap_i64]; omega
          have hi0 : i < n := by omega
          have h1a : (0 : Int) ≤ (i : Int) + 1 := by omega
          have h1b : (i : Int) + 1 < (n : Int) := by omega
          have h1c : ((i : Int) + 1).toNat = i + 1 := by omega
          have h2a : (0 : Int) ≤ (i : Int) + 2 := by omega
          have h2b : (i : Int) + 2 < (n : Int) := by omega
          have h2c : ((i : Int) + 2).toNat = i + 2 := by omega
          refine wp_region_held (S := fun U => U.cell? ⟨b, o + i, none⟩ = some (.int .u8 x0) ∧ U.cell? ⟨b, o + (i + 1), none⟩ = some (.int .u8 x1) ∧ U.cell? ⟨b, o + (i + 2), none⟩ = some (.int .u8 x2) ∧ b < U.heap.size) (by kernel_rfl) ?_
          change wpAnyH _ _ _ _ _ _ _ _ (World.drew wr)
          have bd := (Below.refl wr.heap.size wr).drew
          have hS0 := And.intro ((bd.cell (p := ⟨b, o + i, none⟩) hb).trans c0) (And.intro ((bd.cell (p := ⟨b, o + (i + 1), none⟩) hb).trans c1) (And.intro ((bd.cell (p := ⟨b, o + (i + 2), none⟩) hb).trans c2) (Nat.lt_of_lt_of_le hb bd.size)))
          replace BB := Lib.hid (below3 BB.out bd)
          replace OD := Lib.hid (OD.out.below bd)
          generalize wr.drew = U0 at hS0 BB OD ⊢
          have BU := Lib.hid BB.out
          clear bd c0 c1 c2 hb
          refine take_at (i := 0) (d := 20) (v := .slice (some ⟨b, o, none⟩) n c) rfl rfl (by kernel_rfl) (by kernel_rfl) (by kernel_rfl) (fun _ _ _ h => h) (.inl ⟨by kernel_rfl, fun U hU => by go_simp⟩) hS0 ?_
          simp only [Act.put, List.setIfInBounds_toArray, List.set_cons_zero, List.set_cons_succ]
          refine take_at (i := 1) (d := 21) (v := .int .i64 (i : Int)) rfl rfl (by kernel_rfl) (by kernel_rfl) (by kernel_rfl) (fun _ _ _ h => h) (.inl ⟨by kernel_rfl, fun U hU => by go_simp⟩) hS0 ?_
          simp only [Act.put, List.setIfInBounds_toArray, List.set_cons_zero, List.set_cons_succ]
          refine take_at (i := 2) (d := 22) (v := .pointer (some ⟨b, o + i, none⟩)) rfl rfl (by kernel_rfl) (by kernel_rfl) (by kernel_rfl) (fun _ _ _ h => h) (.inl ⟨by kernel_rfl, fun U hU => by go_simp⟩) hS0 ?_
          simp only [Act.put, List.setIfInBounds_toArray, List.set_cons_zero, List.set_cons_succ]
          refine take_at (i := 3) (d := 23) (v := .int .u8 x0) rfl rfl (by kernel_rfl) (by kernel_rfl) (by kernel_rfl) (fun _ _ _ h => h) (.inl ⟨by kernel_rfl, fun U hU => by obtain ⟨g0, g1, g2, gl⟩ := hU; go_simp⟩) hS0 ?_
          simp only [Act.put, List.setIfInBounds_toArray, List.set_cons_zero, List.set_cons_succ]
          refine take_at (i := 4) (d := 24) (v := .int .i64 x0) rfl rfl (by kernel_rfl) (by kernel_rfl) (by kernel_rfl) (fun _ _ _ h => h) (.inl ⟨by kernel_rfl, fun U hU => by go_simp⟩) hS0 ?_
          simp only [Act.put, List.setIfInBounds_toArray, List.set_cons_zero, List.set_cons_succ]
          refine take_at (i := 5) (d := 25) (v := .slice (some ⟨b, o, none⟩) n c) rfl rfl (by kernel_rfl) (by kernel_rfl) (by kernel_rfl) (fun _ _ _ h => h) (.inl ⟨by kernel_rfl, fun U hU => by go_simp⟩) hS0 ?_
          simp only [Act.put, List.setIfInBounds_toArray, List.set_cons_zero, List.set_cons_succ]
          refine take_at (i := 6) (d := 26) (v := .int .i64 (i : Int)) rfl rfl (by kernel_rfl) (by kernel_rfl) (by kernel_rfl) (fun _ _ _ h => h) (.inl ⟨by kernel_rfl, fun U hU => by go_simp⟩) hS0 ?_
          simp only [Act.put, List.setIfInBounds_toArray, List.set_cons_zero, List.set_cons_succ]
          refine take_at (i := 7) (d := 27) (v := .int .i64 ((i : Int) + 1)) rfl rfl (by kernel_rfl) (by kernel_rfl) (by kernel_rfl) (fun _ _ _ h => h) (.inl ⟨by kernel_rfl, fun U hU => by go_simp⟩) hS0 ?_
          simp only [Act.put, List.setIfInBounds_toArray, List.set_cons_zero, List.set_cons_succ]
          refine take_at (i := 8) (d := 28) (v := .pointer (some ⟨b, o + (i + 1), none⟩)) rfl rfl (by kernel_rfl) (by kernel_rfl) (by kernel_rfl) (fun _ _ _ h => h) (.inl ⟨by kernel_rfl, fun U hU => by go_simp⟩) hS0 ?_
          simp only [Act.put, List.setIfInBounds_toArray, List.set_cons_zero, List.set_cons_succ]
          refine take_at (i := 9) (d := 29) (v := .int .u8 x1) rfl rfl (by kernel_rfl) (by kernel_rfl) (by kernel_rfl) (fun _ _ _ h => h) (.inl ⟨by kernel_rfl, fun U hU => by obtain ⟨g0, g1, g2, gl⟩ := hU; go_simp⟩) hS0 ?_
          simp only [Act.put, List.setIfInBounds_toArray, List.set_cons_zero, List.set_cons_succ]
          refine take_at (i := 10) (d := 30) (v := .int .i64 x1) rfl rfl (by kernel_rfl) (by kernel_rfl) (by kernel_rfl) (fun _ _ _ h => h) (.inl ⟨by kernel_rfl, fun U hU => by go_simp⟩) hS0 ?_
          simp only [Act.put, List.setIfInBounds_toArray, List.set_cons_zero, List.set_cons_succ]
          refine take_at (i := 11) (d := 31) (v := .slice (some ⟨b, o, none⟩) n c) rfl rfl (by kernel_rfl) (by kernel_rfl) (by kernel_rfl) (fun _ _ _ h => h) (.inl ⟨by kernel_rfl, fun U hU => by go_simp⟩) hS0 ?_
          simp only [Act.put, List.setIfInBounds_toArray, List.set_cons_zero, List.set_cons_succ]
          refine take_at (i := 12) (d := 32) (v := .int .i64 (i : Int)) rfl rfl (by kernel_rfl) (by kernel_rfl) (by kernel_rfl) (fun _ _ _ h => h) (.inl ⟨by kernel_rfl, fun U hU => by go_simp⟩) hS0 ?_
          simp only [Act.put, List.setIfInBounds_toArray, List.set_cons_zero, List.set_cons_succ]
          refine take_at (i := 13) (d := 33) (v := .int .i64 ((i : Int) + 2)) rfl rfl (by kernel_rfl) (by kernel_rfl) (by kernel_rfl) (fun _ _ _ h => h) (.inl ⟨by kernel_rfl, fun U hU => by go_simp⟩) hS0 ?_
          simp only [Act.put, List.setIfInBounds_toArray, List.set_cons_zero, List.set_cons_succ]
          refine take_at (i := 14) (d := 34) (v := .pointer (some ⟨b, o + (i + 2), none⟩)) rfl rfl (by kernel_rfl) (by kernel_rfl) (by kernel_rfl) (fun _ _ _ h => h) (.inl ⟨by kernel_rfl, fun U hU => by go_simp⟩) hS0 ?_
          simp only [Act.put, List.setIfInBounds_toArray, List.set_cons_zero, List.set_cons_succ]
          refine take_at (i := 15) (d := 35) (v := .int .u8 x2) rfl rfl (by kernel_rfl) (by kernel_rfl) (by kernel_rfl) (fun _ _ _ h => h) (.inl ⟨by kernel_rfl, fun U hU => by obtain ⟨g0, g1, g2, gl⟩ := hU; go_simp⟩) hS0 ?_
          simp only [Act.put, List.setIfInBounds_toArray, List.set_cons_zero, List.set_cons_succ]
          refine take_at (i := 16) (d := 36) (v := .int .i64 x2) rfl rfl (by kernel_rfl) (by kernel_rfl) (by kernel_rfl) (fun _ _ _ h => h) (.inl ⟨by kernel_rfl, fun U hU => by go_simp⟩) hS0 ?_
          simp only [Act.put, List.setIfInBounds_toArray, List.set_cons_zero, List.set_cons_succ]
          refine take_at (i := 17) (d := 37) (v := .agg #[.int .i64 x0, .int .i64 x1, .int .i64 x2]) rfl rfl (by kernel_rfl) (by kernel_rfl) (by kernel_rfl) (fun _ _ _ h => h) (.inl ⟨by kernel_rfl, fun U hU => by go_simp⟩) hS0 ?_
          simp only [Act.put, List.setIfInBounds_toArray, List.set_cons_zero, List.set_cons_succ]
          refine wpAnyH_all (rs := [18]) (by kernel_rfl) (by simp) ?_
          intro i2 hi2
          simp only [List.mem_cons, List.not_mem_nil, or_false] at hi2
          subst hi2
          unfold wpOp
          go_simp
          left
          have kz := Bk.new U0 45 #[.int .i64 0, .int .i64 0, .int .i64 0]
          have ba := (Below.refl U0.heap.size U0).alloc (Nat.le_refl _) (.cells #[.int .i64 0, .int .i64 0, .int .i64 0] 45)
          replace BB := Lib.hid (below3 BB.out ba)
          have hgb := BB.out.size
          have hS1 := And.intro ((ba.cell (p := ⟨b, o + i, none⟩) hS0.2.2.2).trans hS0.1) (And.intro ((ba.cell (p := ⟨b, o + (i + 1), none⟩) hS0.2.2.2).trans hS0.2.1) (And.intro ((ba.cell (p := ⟨b, o + (i + 2), none⟩) hS0.2.2.2).trans hS0.2.2.1) (Nat.lt_of_lt_of_le hS0.2.2.2 ba.size)))
          have hne : b < U0.heap.size := hS0.2.2.2
          have hwg : w.heap.size ≤ U0.heap.size := BU.out.size
          obtain ⟨W2, hW⟩ : ∃ W, U0.alloc (.cells #[.int .i64 0, .int .i64 0, .int .i64 0] 45) = W := ⟨_, rfl⟩
          obtain ⟨gE, hg⟩ : ∃ g, U0.heap.size = g := ⟨_, rfl⟩
          rw [hW] at kz BB hS1 ba ⊢
          try rw [hg]
          rw [hg] at kz hne hwg ba
          have HGE := Lib.hid hg
          have BA := Lib.hid ba
          clear hS0 hW hg ba hgb BU
          have HS1 := Lib.hid hS1
          have HNE := Lib.hid hne
          have HWG := Lib.hid hwg
          clear hne hwg
          refine wpAnyH_all (rs := [19]) (by kernel_rfl) (by simp) ?_
          intro i2 hi2
          simp only [List.mem_cons, List.not_mem_nil, or_false] at hi2
          subst hi2
          obtain ⟨q0, q1, q2⟩ := kz.c3e
          have lq := kz.lt
          have f0 := kz.frozen 0
          have f1 := kz.frozen 1
          have f2 := kz.frozen 2
          have KE : Hid (Bk _ gE 45 #[.int .i64 x0, .int .i64 x1, .int .i64 x2]) := Lib.hid (((kz.set_ 0 (.int .i64 x0)).set_ 1 (.int .i64 x1)).set_ 2 (.int .i64 x2))
          have BE := Lib.hid (((BB.out.setCell (p := ⟨gE, 0, none⟩) HWG.out (.int .i64 x0)).setCell (p := ⟨gE, 1, none⟩) HWG.out (.int .i64 x1)).setCell (p := ⟨gE, 2, none⟩) HWG.out (.int .i64 x2))
          have BX := ((((Below.refl gE W2).setCell (p := ⟨gE, 0, none⟩) (Nat.le_refl _) (.int .i64 x0)).setCell (p := ⟨gE, 1, none⟩) (Nat.le_refl _) (.int .i64 x1)).setCell (p := ⟨gE, 2, none⟩) (Nat.le_refl _) (.int .i64 x2))
          unfold wpOp
          go_simp
          left
          refine ⟨⟨(BX.cell (p := ⟨b, o + i, none⟩) HNE.out).trans HS1.out.1, (BX.cell (p := ⟨b, o + (i + 1), none⟩) HNE.out).trans HS1.out.2.1, (BX.cell (p := ⟨b, o + (i + 2), none⟩) HNE.out).trans HS1.out.2.2.1⟩, ?_⟩
          skip
          generalize ((W2.setCell ⟨gE, 0, none⟩ (.int .i64 x0)).setCell ⟨gE, 1, none⟩ (.int .i64 x1)).setCell ⟨gE, 2, none⟩ (.int .i64 x2) = X2 at BX KE BE ⊢
          clear q0 q1 q2 lq f0 f1 f2 kz HS1
          refine wpAnyH_done (by kernel_rfl) ?_ _
          replace OD := Lib.hid (OD.out.below (by rw [HGE.out]; exact BA.out.trans BX))
          replace BB := BE
          clear BX BE BA HGE HNE HWG e1 e2 h1a h1b h1c h2a h2b h2c w0 w1 w2
          obtain ⟨q0, q1, q2⟩ := KE.out.c3e
          have lE := KE.out.lt
          go_wp2_with fail
          refine (rmayE_any (x0, x1, x2) _).mono ?_
          rintro e U9 ⟨rfl, b9⟩
          replace BB := Lib.hid (below3 BB.out b9)
          replace OD := Lib.hid (OD.out.below b9)
          replace KE := Lib.hid (KE.out.below b9 KE.out.lt)
          clear b9 q0 q1 q2 lE
          cases hv : mayE (x0, x1, x2)
          · have HRD : Hid (rdR bs = ([], 2)) := Lib.hid (rdR_no HH.out HK.out (fun q => by have := q k (by rw [HLN.out]; have := HN3.out; have := HI.out; omega); rw [HAT.out, hv] at this; cases this))
            clear hv
            go_wp2_with fail
            exact bodyPost_ret (results_tmp2 rfl _ _ _) rfl (by rw [HRD.out]; exact ⟨none, 0, rfl, OwnP.nil_ _ _ _, BB.out⟩)
          · have OK2 : Hid (∀ j, j < k + 1 → mayE (ith (lsE bs) j) = true) := Lib.hid (fun j hj => by rcases Nat.lt_or_ge j k with q | q; exact OK.out j q; obtain rfl : j = k := (by omega); rw [HAT.out]; exact hv)
            clear hv
            obtain ⟨q0, q1, q2⟩ := KE.out.c3e
            have lE := KE.out.lt
            have bl := Lib.hid ((Below.refl U9.heap.size U9).alloc (Nat.le_refl _) (.cells #[.int .i64 x0, .int .i64 x1, .int .i64 x2] 45))
            go_wp2_with (at_builtin; refine wpList_append_prog _ rfl _ _ 31 rfl 45 _ rfl Try.underlying31 Try.enInfo w.heap.size D d v v.length rfl rfl (OD.out.below bl.out) (some ⟨U9.heap.size, 0, none⟩) 1 1 [(x0, x1, x2)] rfl (prog1_en U9 45 FX.out) (by have := HLE.out; have := HI.out; omega) (Nat.le_trans BB.out.size bl.out.size) ?_; intro D1 d1 w1 ho hg; have HO := Lib.hid ho; have HB := Lib.hid ((below3 BB.out bl.out).grown hg (Nat.le_trans BB.out.size bl.out.size) (OD.out.blockE)); clear ho hg)
            go_roundw
            case rel => exact ⟨k + 1, D1, d1, by have := HI.out; have := HN3.out; omega, by have := HI.out; go_num, by rw [HNX.out]; simp, OK2, HB, by rw [HNX.out]; exact HO⟩
            case measure => simp [intOf]; omega
        · have hkN : k = N := by have := HN3.out; omega
          have HRD : Hid (rdR bs = (lsE bs, 0)) := Lib.hid (rdR_ok HH.out HK.out (fun j hj => OK.out j (by rw [HLN.out] at hj; omega)))
          have HE2 : Hid ((lsE bs).take k = lsE bs) := Lib.hid (List.take_of_length_le (by rw [HLN.out]; omega))
          rw [HE2.out] at OD ⊢
          go_wp2_with fail
          exact bodyPost_ret (results_tmp2 rfl _ _ _) rfl (by rw [HRD.out]; exact ⟨D, d, rfl, OD.out, BB.out⟩)

end Go.Proofs.Ytpfnoohcilefhaa

/-
  Layer 19, the document: FewConfig, Config.
-/
import Derived.Test.YtpfnoohcilefhaaEne
import Derived.Test.YtpfnoohcilefhaaTne
namespace Go.Proofs.Ytpfnoohcilefhaa
open Go.RowKit

/-- What a config may be. -/
def insE (P : List (List I3)) (fd : Int) (k : Nat) : Prop := ∀ p, p ∈ P → ∀ x, x ∈ p → ¬ (x.1 = 5 ∧ fd ≤ x.2.1) ∧ ¬ ((x.1 = 7 ∨ x.1 = 8) ∧ (k : Int) ≤ x.2.1)
/-- An instruction asks for what there is. -/
def insB (fd : Int) (k : Nat) (x : I3) : Bool := !(decide (x.1 = 5 ∧ fd ≤ x.2.1) || decide ((x.1 = 7 ∨ x.1 = 8) ∧ (k : Int) ≤ x.2.1))
def headC (x : Cf) : Prop := (1 ≤ x.wk ∧ x.wk ≤ 64) ∧ (1 ≤ x.cp ∧ x.cp ≤ 1024) ∧ x.wk * (x.cp + 2) ≤ 65536 ∧ (1 ≤ x.bd ∧ x.bd ≤ 100) ∧ (1 ≤ x.tk ∧ x.tk ≤ 256) ∧ (0 ≤ x.fd ∧ x.fd ≤ 16) ∧ x.sm.length ≤ 8
def semsC (x : Cf) : Prop := ∀ j, j < x.sm.length → 0 ≤ nth x.sm j ∧ nth x.sm j ≤ 1000
def progC (x : Cf) : Prop := ∀ j, j < x.P.length → ∀ i, i < (pth x.P j).length → insB x.fd x.sm.length (ith (pth x.P j) i) = true
def okC (x : Cf) : Prop := headC x ∧ (newLn x.ws x.qs).1 = 0 ∧ errL x.P = 0 ∧ semsC x ∧ progC x
open Classical in
noncomputable def cfgR (x : Cf) : Int := if okC x then 0 else 1
theorem cfgR_ok {x : Cf} (h : okC x) : cfgR x = 0 := if_pos h
theorem cfgR_no {x : Cf} (h : ¬ okC x) : cfgR x = 1 := if_neg h

def SemE (er : Int) (w : World) (e : Ending) (w' : World) : Prop := ∃ z, e = .returned (.tuple #[.agg #[.int .i64 z, .slice none 0 0], .int .i64 er]) ∧ Below w.heap.size w w'
set_option maxHeartbeats 1000000 in
theorem newSemE_any (z : Int) (w : World) :
    Calls Try.prog 32 #[.int .i64 z] w (SemE (if 0 ≤ z ∧ z ≤ 1000 then 0 else 1) w) := by
  by_cases h0 : z < 0
  · rw [if_neg (by omega)]
    have t0 : decide (z < 0) = true := decide_eq_true h0
    clear h0
    have k2 := Bk.new w 56 #[.int .i64 0, .slice none 0 0]
    have hb0 := (Below.refl w.heap.size w).alloc (Nat.le_refl _) (.cells #[.int .i64 0, .slice none 0 0] 56)
    have K2 := Lib.hid k2
    have HB := Lib.hid hb0
    clear k2 hb0
    go_enter Try.func32, Try.ntmps32
    go_wp2_with fail
    have r0 := K2.out.c0
    have r1 := K2.out.c1
    have f0 := K2.out.frozen 0
    have f1 := K2.out.frozen 1
    have lr := K2.out.lt
    go_wp2
    exact bodyPost_ret (v := .tuple #[.agg #[.int .i64 0, .slice none 0 0], .int .i64 1]) (by simp [results, Try.results32, go_sem, *]) rfl ⟨0, rfl, HB.out⟩
  · have t0 : decide (z < 0) = false := decide_eq_false h0
    by_cases h1 : 1000 < z
    · rw [if_neg (by omega)]
      have t1 : decide (1000 < z) = true := decide_eq_true h1
      clear h0 h1
      have k2 := Bk.new w 56 #[.int .i64 0, .slice none 0 0]
      have hb0 := (Below.refl w.heap.size w).alloc (Nat.le_refl _) (.cells #[.int .i64 0, .slice none 0 0] 56)
      have K2 := Lib.hid k2
      have HB := Lib.hid hb0
      clear k2 hb0
      go_enter Try.func32, Try.ntmps32
      go_wp2_with fail
      have r0 := K2.out.c0
      have r1 := K2.out.c1
      have f0 := K2.out.frozen 0
      have f1 := K2.out.frozen 1
      have lr := K2.out.lt
      go_wp2
      exact bodyPost_ret (v := .tuple #[.agg #[.int .i64 0, .slice none 0 0], .int .i64 1]) (by simp [results, Try.results32, go_sem, *]) rfl ⟨0, rfl, HB.out⟩
    · rw [if_pos (by omega)]
      have t1 : decide (1000 < z) = false := decide_eq_false h1
      clear h0 h1
      have HB2 := Lib.hid ((Below.refl w.heap.size w).alloc (Nat.le_refl _) (.cells #[.int .i64 z, .slice none 0 0] 56))
      have k2 := Bk.new w 56 #[.int .i64 0, .slice none 0 0]
      have hb0 := (Below.refl w.heap.size w).alloc (Nat.le_refl _) (.cells #[.int .i64 0, .slice none 0 0] 56)
      have K2 := Lib.hid k2
      have HB := Lib.hid hb0
      clear k2 hb0
      go_enter Try.func32, Try.ntmps32
      go_wp2_with fail
      have r0 := K2.out.c0
      have r1 := K2.out.c1
      have f0 := K2.out.frozen 0
      have f1 := K2.out.frozen 1
      have lr := K2.out.lt
      go_wp2
      exact bodyPost_ret (v := .tuple #[.agg #[.int .i64 z, .slice none 0 0], .int .i64 0]) (by simp [results, Try.results32, go_sem]) rfl ⟨z, rfl, HB2.out⟩

set_option maxHeartbeats 2000000 in
theorem fewCf_any (x : Cf) (a : CfA) (w : World) (hx : CfR w x a) :
    Calls Try.prog 9 #[.agg (cfc x a)] w (RetB (.bool (fewCf x)) w) := by
  obtain ⟨wk, cp, bd, ws, qs, P, tk, fd, sm⟩ := x
  obtain ⟨A, n, c, B, m, d, F, q, e, G, r, h⟩ := a
  have HX := Lib.hid hx
  have LW := hx.ws.1
  have LQ := hx.qs.1
  have LS := hx.sm.1
  dsimp only at LW LQ LS
  have HLW := Lib.hid LW
  have HLQ := Lib.hid LQ
  have HLS := Lib.hid LS
  clear hx LW LQ LS
  dsimp only [cfc]
  obtain ⟨kb0, hb0⟩ := lay1 w #[.int .i64 wk, .int .i64 cp, .int .i64 bd, .slice A n c, .slice B m d, .slice F q e, .int .i64 tk, .int .i64 fd, .slice G r h] 25
  obtain ⟨V, hV⟩ : ∃ V, w.alloc (.cells #[.int .i64 wk, .int .i64 cp, .int .i64 bd, .slice A n c, .slice B m d, .slice F q e, .int .i64 tk, .int .i64 fd, .slice G r h] 25) = V := ⟨_, rfl⟩
  rw [hV] at kb0 hb0
  have HV := Lib.hid hV
  have BB := Lib.hid hb0
  have KX := Lib.hid kb0
  clear hV hb0 kb0
  cases hf : fewB P
  · have HRES : Hid (fewCf ⟨wk, cp, bd, ws, qs, P, tk, fd, sm⟩ = false) := Lib.hid (by unfold fewCf; dsimp only; rw [hf, HLW.out, HLQ.out, HLS.out]; simp; try omega)
    have HFB := Lib.hid hf
    clear hf
    go_enter Try.func9, Try.ntmps9
    go_upto_region 1 with fail
    rw [HV.out]
    clear HV
    obtain ⟨x0, x1, x2, x3, x4, x5, x6, x7, x8⟩ := KX.out.c9e
    have lX := KX.out.lt
    go_wp2_with fail
    refine (few_any F q e P _ (HX.out.below BB.out).P).mono ?_
    rw [HFB.out]
    rintro e u1 ⟨rfl, hw⟩
    subst hw
    go_wp2_with fail
    go_ret
    exact ⟨by rw [HRES.out]; rfl, BB.out⟩
  · by_cases g0 : n ≤ 100
    · by_cases g1 : m ≤ 100
      · by_cases g2 : r ≤ 100
        · have HRES : Hid (fewCf ⟨wk, cp, bd, ws, qs, P, tk, fd, sm⟩ = true) := Lib.hid (by unfold fewCf; dsimp only; rw [hf, HLW.out, HLQ.out, HLS.out]; simp; try omega)
          have HFB := Lib.hid hf
          have t0 : decide ((n : Int) ≤ 100) = true := decide_eq_true (by omega)
          have t0n : decide (n ≤ 100) = true := decide_eq_true (by omega)
          have t1 : decide ((m : Int) ≤ 100) = true := decide_eq_true (by omega)
          have t1n : decide (m ≤ 100) = true := decide_eq_true (by omega)
          have t2 : decide ((r : Int) ≤ 100) = true := decide_eq_true (by omega)
          have t2n : decide (r ≤ 100) = true := decide_eq_true (by omega)
          clear hf g0 g1 g2
          go_enter Try.func9, Try.ntmps9
          go_upto_region 1 with fail
          rw [HV.out]
          clear HV
          obtain ⟨x0, x1, x2, x3, x4, x5, x6, x7, x8⟩ := KX.out.c9e
          have lX := KX.out.lt
          go_wp2_with fail
          refine (few_any F q e P _ (HX.out.below BB.out).P).mono ?_
          rw [HFB.out]
          rintro e u1 ⟨rfl, hw⟩
          subst hw
          go_wp2_with fail
          go_ret
          exact ⟨by rw [HRES.out]; rfl, BB.out⟩
        · have HRES : Hid (fewCf ⟨wk, cp, bd, ws, qs, P, tk, fd, sm⟩ = false) := Lib.hid (by unfold fewCf; dsimp only; rw [hf, HLW.out, HLQ.out, HLS.out]; simp; try omega)
          have HFB := Lib.hid hf
          have t0 : decide ((n : Int) ≤ 100) = true := decide_eq_true (by omega)
          have t0n : decide (n ≤ 100) = true := decide_eq_true (by omega)
          have t1 : decide ((m : Int) ≤ 100) = true := decide_eq_true (by omega)
          have t1n : decide (m ≤ 100) = true := decide_eq_true (by omega)
          have t2 : decide ((r : Int) ≤ 100) = false := decide_eq_false (by omega)
          have t2n : decide (r ≤ 100) = false := decide_eq_false (by omega)
          clear hf g0 g1 g2
          go_enter Try.func9, Try.ntmps9
          go_upto_region 1 with fail
          rw [HV.out]
          clear HV
          obtain ⟨x0, x1, x2, x3, x4, x5, x6, x7, x8⟩ := KX.out.c9e
          have lX := KX.out.lt
          go_wp2_with fail
          refine (few_any F q e P _ (HX.out.below BB.out).P).mono ?_
          rw [HFB.out]
          rintro e u1 ⟨rfl, hw⟩
          subst hw
          go_wp2_with fail
          go_ret
          exact ⟨by rw [HRES.out]; rfl, BB.out⟩
      · have HRES : Hid (fewCf ⟨wk, cp, bd, ws, qs, P, tk, fd, sm⟩ = false) := Lib.hid (by unfold fewCf; dsimp only; rw [hf, HLW.out, HLQ.out, HLS.out]; simp; try omega)
        have HFB := Lib.hid hf
        have t0 : decide ((n : Int) ≤ 100) = true := decide_eq_true (by omega)
        have t0n : decide (n ≤ 100) = true := decide_eq_true (by omega)
        have t1 : decide ((m : Int) ≤ 100) = false := decide_eq_false (by omega)
        have t1n : decide (m ≤ 100) = false := decide_eq_false (by omega)
        clear hf g0 g1
        go_enter Try.func9, Try.ntmps9
        go_upto_region 1 with fail
        rw [HV.out]
        clear HV
        obtain ⟨x0, x1, x2, x3, x4, x5, x6, x7, x8⟩ := KX.out.c9e
        have lX := KX.out.lt
        go_wp2_with fail
        refine (few_any F q e P _ (HX.out.below BB.out).P).mono ?_
        rw [HFB.out]
        rintro e u1 ⟨rfl, hw⟩
        subst hw
        go_wp2_with fail
        go_ret
        exact ⟨by rw [HRES.out]; rfl, BB.out⟩
    · have HRES : Hid (fewCf ⟨wk, cp, bd, ws, qs, P, tk, fd, sm⟩ = false) := Lib.hid (by unfold fewCf; dsimp only; rw [hf, HLW.out, HLQ.out, HLS.out]; simp; try omega)
      have HFB := Lib.hid hf
      have t0 : decide ((n : Int) ≤ 100) = false := decide_eq_false (by omega)
      have t0n : decide (n ≤ 100) = false := decide_eq_false (by omega)
      clear hf g0
      go_enter Try.func9, Try.ntmps9
      go_upto_region 1 with fail
      rw [HV.out]
      clear HV
      obtain ⟨x0, x1, x2, x3, x4, x5, x6, x7, x8⟩ := KX.out.c9e
      have lX := KX.out.lt
      go_wp2_with fail
      refine (few_any F q e P _ (HX.out.below BB.out).P).mono ?_
      rw [HFB.out]
      rintro e u1 ⟨rfl, hw⟩
      subst hw
      go_wp2_with fail
      go_ret
      exact ⟨by rw [HRES.out]; rfl, BB.out⟩

set_option maxRecDepth 100000 in
set_option maxHeartbeats 16000000 in
theorem rconfig_any (x : Cf) (a : CfA) (w : World) (hx : CfR w x a) (hn : x.ws.length ≤ 1000) :
    Calls Try.prog 11 #[.agg (cfc x a)] w (RetB (.int .i64 (cfgR x)) w) := by
  obtain ⟨wk, cp, bd, ws, qs, P, tk, fd, sm⟩ := x
  obtain ⟨A, n, c, B, m, d, F, q, e, G, r, h⟩ := a
  have HX := Lib.hid hx
  have LW := hx.ws.1
  have LQ := hx.qs.1
  have LS := hx.sm.1
  dsimp only at LW LQ LS
  have HLW := Lib.hid LW
  have HLQ := Lib.hid LQ
  have HLS := Lib.hid LS
  clear hx LW LQ LS
  dsimp only [cfc]
  obtain ⟨kb0, hb0⟩ := lay1 w #[.int .i64 wk, .int .i64 cp, .int .i64 bd, .slice A n c, .slice B m d, .slice F q e, .int .i64 tk, .int .i64 fd, .slice G r h] 25
  obtain ⟨V, hV⟩ : ∃ V, w.alloc (.cells #[.int .i64 wk, .int .i64 cp, .int .i64 bd, .slice A n c, .slice B m d, .slice F q e, .int .i64 tk, .int .i64 fd, .slice G r h] 25) = V := ⟨_, rfl⟩
  rw [hV] at kb0 hb0
  have HV := Lib.hid hV
  have BB := Lib.hid hb0
  have KX := Lib.hid kb0
  clear hV hb0 kb0
  have HN : Hid (n ≤ 1000) := Lib.hid (by rw [← HLW.out]; exact hn)
  clear hn
  by_cases g0 : 1 ≤ wk ∧ wk ≤ 64
  · by_cases g1 : 1 ≤ cp ∧ cp ≤ 1024
    · by_cases g2 : wk * (cp + 2) ≤ 65536
      · by_cases g3 : 1 ≤ bd ∧ bd ≤ 100
        · by_cases g4 : 1 ≤ tk ∧ tk ≤ 256
          · by_cases g5 : 0 ≤ fd ∧ fd ≤ 16
            · by_cases g6 : r ≤ 8
              · have HR0 : Hid ((decide ((1 : Int) ≤ wk) && decide (wk ≤ 64)) = true) := Lib.hid (by simp; omega)
                have HR1 : Hid ((decide ((1 : Int) ≤ cp) && decide (cp ≤ 1024)) = true) := Lib.hid (by simp; omega)
                have t2 : decide ((65536 : Int) < wk * (cp + 2)) = false := decide_eq_false (by omega)
                have HR3 : Hid ((decide ((1 : Int) ≤ bd) && decide (bd ≤ 100)) = true) := Lib.hid (by simp; omega)
                have HR4 : Hid ((decide ((1 : Int) ≤ tk) && decide (tk ≤ 256)) = true) := Lib.hid (by simp; omega)
                have HR5 : Hid ((decide ((0 : Int) ≤ fd) && decide (fd ≤ 16)) = true) := Lib.hid (by simp; omega)
                have t6 : decide ((8 : Int) < (r : Int)) = false := decide_eq_false (by have := HLS.out; omega)
                have t6n : decide (8 < r) = false := decide_eq_false (by have := HLS.out; omega)
                have ec : IntKind.i64.wrap (cp + 2) = cp + 2 := by rw [IntKind.wrap_i64]; omega
                have hp1 : 0 ≤ wk * (cp + 2) := Int.mul_nonneg (by omega) (by omega)
                have hp2 : wk * (cp + 2) ≤ 64 * 1026 := Int.mul_le_mul (by omega) (by omega) (by omega) (by omega)
                obtain ⟨pr, hpr⟩ : ∃ p, wk * (cp + 2) = p := ⟨_, rfl⟩
                rw [hpr] at hp1 hp2
                have ep : IntKind.i64.wrap pr = pr := by rw [IntKind.wrap_i64]; omega
                rw [hpr] at t2
                have HHD : Hid (headC ⟨wk, cp, bd, ws, qs, P, tk, fd, sm⟩) := Lib.hid ⟨g0, g1, g2, g3, g4, g5, by rw [HLS.out]; exact g6⟩
                have hr8 : r ≤ 8 := g6
                have HFD := Lib.hid g5
                clear g0 g1 g2 g3 g4 g5 g6
                obtain ⟨⟨er, tl⟩, her⟩ : ∃ r, newLn ws qs = r := ⟨_, rfl⟩
                have HE := Lib.hid her
                by_cases hne : er = 0
                · subst hne
                  by_cases hel : errL P = 0
                  · have HEL := Lib.hid hel
                    have HER : Hid ((newLn ws qs).1 = 0) := Lib.hid (by rw [her])
                    clear hel her
                    go_enter Try.func11, Try.ntmps11
                    go_upto_region 1 with fail
                    rw [HV.out]
                    clear HV
                    obtain ⟨x0, x1, x2, x3, x4, x5, x6, x7, x8⟩ := KX.out.c9e
                    have lX := KX.out.lt
                    go_wp2_with fail
                    refine (rinE_any wk 1 64 _).mono ?_
                    rw [HR0.out]
                    rintro e u0 ⟨rfl, hw⟩
                    subst hw
                    go_wp2_with fail
                    refine (rinE_any cp 1 1024 _).mono ?_
                    rw [HR1.out]
                    rintro e u1 ⟨rfl, hw⟩
                    subst hw
                    go_wp2_with fail
                    refine (rinE_any bd 1 100 _).mono ?_
                    rw [HR3.out]
                    rintro e u3 ⟨rfl, hw⟩
                    subst hw
                    go_wp2_with fail
                    refine (rinE_any tk 1 256 _).mono ?_
                    rw [HR4.out]
                    rintro e u4 ⟨rfl, hw⟩
                    subst hw
                    go_wp2_with fail
                    refine (rinE_any fd 0 16 _).mono ?_
                    rw [HR5.out]
                    rintro e u5 ⟨rfl, hw⟩
                    subst hw
                    go_wp2_with fail
                    refine (rnew_tn A B n c m d ws qs _ (HX.out.below BB.out).ws (HX.out.below BB.out).qs (by have := HN.out; omega)).mono ?_
                    unfold ListTn
                    rw [HE.out]
                    rintro e UN ⟨A9, c9, rfl, -, bN⟩
                    clear x0 x1 x2 x3 x4 x5 x6 x7 x8 lX
                    replace BB := Lib.hid (below3 BB.out bN)
                    replace KX := Lib.hid (KX.out.below bN KX.out.lt)
                    clear bN
                    obtain ⟨x0, x1, x2, x3, x4, x5, x6, x7, x8⟩ := KX.out.c9e
                    have lX := KX.out.lt
                    go_wp2_with fail
                    refine (rcheckAll_any F q e P _ (HX.out.below BB.out).P).mono ?_
                    rw [HEL.out]
                    rintro e2 UC ⟨rfl, bC⟩
                    clear x0 x1 x2 x3 x4 x5 x6 x7 x8 lX
                    replace BB := Lib.hid (below3 BB.out bC)
                    replace KX := Lib.hid (KX.out.below bC KX.out.lt)
                    clear bC
                    obtain ⟨x0, x1, x2, x3, x4, x5, x6, x7, x8⟩ := KX.out.c9e
                    have lX := KX.out.lt
                    go_wp2_with fail
                    clear x0 x1 x2 x3 x4 x5 x6 x7 x8 lX
                    go_loopw [73] (fun t wr => ∃ k : Nat, k ≤ r ∧ t = .int .i64 k ∧ Hid (∀ j, j < k → 0 ≤ nth sm j ∧ nth sm j ≤ 1000) ∧ Hid (Below UC.heap.size UC wr)) (fun t _ => r - (intOf t).toNat)
                    case atStart => exact ⟨0, Nat.zero_le _, rfl, Lib.hid (fun j hj => absurd hj (Nat.not_lt_zero _)), Lib.hid (Below.refl _ _)⟩
                    case round =>
                      rename World => wr
                      obtain ⟨k, hk, rfl, OS, BS⟩ := hrel
                      by_cases hkr : k < r
                      · obtain ⟨z, hz⟩ : ∃ z, nth sm k = z := ⟨_, rfl⟩
                        have hsm := (HX.out.below (BB.out.trans (BS.out.mono BB.out.size))).sm
                        have h0r : 0 < r := by omega
                        obtain ⟨b, o, hA, hb, hc⟩ := hsm.2.2.2 h0r
                        try dsimp only at hA hc
                        subst hA
                        have c0 := hc k hkr
                        try dsimp only at c0
                        rw [hz] at c0
                        have HZ := Lib.hid hz
                        clear hc hz hsm
                        go_wp2_with fail
                        refine (newSemE_any z _).mono ?_
                        by_cases hz1 : 0 ≤ z ∧ z ≤ 1000
                        · have OS2 : Hid (∀ j, j < k + 1 → 0 ≤ nth sm j ∧ nth sm j ≤ 1000) := Lib.hid (fun j hj => by rcases Nat.lt_or_ge j k with q9 | q9; exact OS.out j q9; obtain rfl : j = k := (by omega); rw [HZ.out]; exact hz1)
                          rw [if_pos hz1]
                          unfold SemE
                          rintro e US ⟨z9, rfl, bS⟩
                          replace BS := Lib.hid (below3 BS.out bS)
                          clear bS c0 hb
                          clear hz1
                          have BS2 := Lib.hid (below3 BS.out ((Below.refl US.heap.size US).alloc (Nat.le_refl _) (.cells #[.int .i64 z9, .slice none 0 0] 56)))
                          go_wp2_with fail
                          go_roundw
                          case rel => exact ⟨k + 1, by omega, by go_num, OS2, BS2⟩
                          case measure => simp [intOf]; omega
                        · have HRES : Hid (cfgR ⟨wk, cp, bd, ws, qs, P, tk, fd, sm⟩ = 1) := Lib.hid (cfgR_no (fun q => by have y := q.2.2.2.1 k (by show k < sm.length; rw [HLS.out]; exact hkr); dsimp only at y; rw [HZ.out] at y; exact hz1 y))
                          rw [if_neg hz1]
                          unfold SemE
                          rintro e US ⟨z9, rfl, bS⟩
                          replace BS := Lib.hid (below3 BS.out bS)
                          clear bS c0 hb
                          clear hz1
                          have BS2 := Lib.hid (below3 BS.out ((Below.refl US.heap.size US).alloc (Nat.le_refl _) (.cells #[.int .i64 z9, .slice none 0 0] 56)))
                          have BF := Lib.hid (BB.out.trans (BS2.out.mono BB.out.size))
                          go_wp2_with fail
                          go_ret
                          exact ⟨by rw [HRES.out]; rfl, BF.out⟩
                      · have hkk : k = r := by omega
                        have hqb := HX.out.P.2.1
                        dsimp only at hqb
                        have HPL := Lib.hid HX.out.P.1
                        have HSE : Hid (semsC ⟨wk, cp, bd, ws, qs, P, tk, fd, sm⟩) := Lib.hid (fun j hj => OS.out j (by dsimp only at hj; rw [HLS.out] at hj; omega))
                        replace KX := Lib.hid (KX.out.below BS.out KX.out.lt)
                        have B2 := Lib.hid (BB.out.trans (BS.out.mono BB.out.size))
                        obtain ⟨x0, x1, x2, x3, x4, x5, x6, x7, x8⟩ := KX.out.c9e
                        have lX := KX.out.lt
                        go_wp2_with fail
                        clear x0 x1 x2 x3 x4 x5 x6 x7 x8 lX
                        go_loopw [88] (fun t ws2 => ∃ j : Nat, j ≤ q ∧ t = .int .i64 j ∧ Hid (∀ j1, j1 < j → ∀ i, i < (pth P j1).length → insB fd sm.length (ith (pth P j1) i) = true) ∧ Hid (Below wr.heap.size wr ws2)) (fun t _ => q - (intOf t).toNat)
                        case atStart => exact ⟨0, Nat.zero_le _, rfl, Lib.hid (fun j hj => absurd hj (Nat.not_lt_zero _)), Lib.hid (Below.refl _ _)⟩
                        case round =>
                          rename World => ws2
                          obtain ⟨j, hj, rfl, OP, BP⟩ := hrel
                          by_cases hjq : j < q
                          · have B3 := Lib.hid (B2.out.trans (BP.out.mono B2.out.size))
                            have hP := (HX.out.below B3.out).P
                            obtain ⟨b6, o6, B6, m6, c6, hF, hb6, g6, hpr⟩ := hP.at_ hjq
                            dsimp only at hF hpr
                            subst hF
                            have HPR := Lib.hid hpr
                            have HLP := Lib.hid hpr.1
                            have hm6 : m6 ≤ 9223372036854775807 := Nat.le_trans hpr.2.1.1 hpr.2.1.2
                            clear hP hpr
                            go_wp2_with fail
                            clear g6 hb6
                            go_loopw [94] (fun t wq => ∃ i : Nat, i ≤ m6 ∧ t = .int .i64 i ∧ Hid (∀ i1, i1 < i → insB fd sm.length (ith (pth P j) i1) = true) ∧ Hid (Below ws2.heap.size ws2 wq)) (fun t _ => m6 - (intOf t).toNat)
                            case atStart => exact ⟨0, Nat.zero_le _, rfl, Lib.hid (fun j hj => absurd hj (Nat.not_lt_zero _)), Lib.hid (Below.refl _ _)⟩
                            case round =>
                              rename World => wq
                              obtain ⟨i, hi, rfl, OI, BI⟩ := hrel
                              by_cases him : i < m6
                              · obtain ⟨b, o, rfl, hb, c0, c1, c2⟩ := (HPR.out.below BI.out).at_ him
                                obtain ⟨⟨io, ia, ib⟩, hz⟩ : ∃ e, ith (pth P j) i = e := ⟨_, rfl⟩
                                rw [show jO (pth P j) i = io by unfold jO; rw [hz]] at c0
                                rw [show jA (pth P j) i = ia by unfold jA; rw [hz]] at c1
                                rw [show jB (pth P j) i = ib by unfold jB; rw [hz]] at c2
                                have HZ := Lib.hid hz
                                clear hz
                                have kt := Bk.new wq 61 #[.int .i64 io, .int .i64 ia, .int .i64 ib]
                                have ba := (Below.refl wq.heap.size wq).alloc (Nat.le_refl _) (.cells #[.int .i64 io, .int .i64 ia, .int .i64 ib] 61)
                                have kx := ((KX.out.below BP.out KX.out.lt).below BI.out (KX.out.below BP.out KX.out.lt).lt).below ba ((KX.out.below BP.out KX.out.lt).below BI.out (KX.out.below BP.out KX.out.lt).lt).lt
                                replace BI := Lib.hid (below3 BI.out ba)
                                obtain ⟨WI, hW⟩ : ∃ W, wq.alloc (.cells #[.int .i64 io, .int .i64 ia, .int .i64 ib] 61) = W := ⟨_, rfl⟩
                                obtain ⟨gI, hg⟩ : ∃ g, wq.heap.size = g := ⟨_, rfl⟩
                                rw [hW] at kt kx BI
                                rw [hg] at kt
                                have HW := Lib.hid hW
                                have HG := Lib.hid hg
                                have KI := Lib.hid kt
                                have KX2 := Lib.hid kx
                                clear hW hg kt kx ba
                                have hls := HLS.out
                                by_cases h5 : io = 5
                                · by_cases ha : fd ≤ ia
                                  · have HIN : Hid (insB fd sm.length (io, ia, ib) = false) := Lib.hid (by unfold insB; dsimp only; simp; omega)
                                    have HRES : Hid (cfgR ⟨wk, cp, bd, ws, qs, P, tk, fd, sm⟩ = 1) := Lib.hid (cfgR_no (fun q => by have y := q.2.2.2.2 j (by show j < P.length; rw [HPL.out]; exact hjq) i (by show i < (pth P j).length; rw [HLP.out]; exact him); dsimp only at y; rw [HZ.out, HIN.out] at y; cases y))
                                    have t5 : (io == 5) = true := by simp; omega
                                    have ta : decide (fd ≤ ia) = true := decide_eq_true (by omega)
                                    clear h5 ha hls
                                    go_upto_region 21 with fail
                                    rw [HW.out]
                                    try rw [HG.out]
                                    clear HW HG c0 c1 c2 hb
                                    obtain ⟨x0, x1, x2, x3, x4, x5, x6, x7, x8⟩ := KX2.out.c9e
                                    have lX := KX2.out.lt
                                    obtain ⟨q0, q1, q2⟩ := KI.out.c3e
                                    have lI := KI.out.lt
                                    have BF := Lib.hid (B3.out.trans (BI.out.mono B3.out.size))
                                    go_wp2_with fail
                                    go_ret
                                    exact ⟨by rw [HRES.out]; rfl, BF.out⟩
                                  · have HIN : Hid (insB fd sm.length (io, ia, ib) = true) := Lib.hid (by unfold insB; dsimp only; simp; omega)
                                    have t5 : (io == 5) = true := by simp; omega
                                    have ta : decide (fd ≤ ia) = false := decide_eq_false (by omega)
                                    have t7 : (io == 7) = false := by simp; omega
                                    have t8 : (io == 8) = false := by simp; omega
                                    clear h5 ha hls
                                    go_upto_region 21 with fail
                                    rw [HW.out]
                                    try rw [HG.out]
                                    clear HW HG c0 c1 c2 hb
                                    obtain ⟨x0, x1, x2, x3, x4, x5, x6, x7, x8⟩ := KX2.out.c9e
                                    have lX := KX2.out.lt
                                    obtain ⟨q0, q1, q2⟩ := KI.out.c3e
                                    have lI := KI.out.lt
                                    go_wp2_with fail
                                    go_roundw
                                    case rel => exact ⟨i + 1, by omega, by go_num, Lib.hid (fun i1 h1 => by rcases Nat.lt_or_ge i1 i with q9 | q9; exact OI.out i1 q9; obtain rfl : i1 = i := (by omega); rw [HZ.out]; exact HIN.out), BI⟩
                                    case measure => simp [intOf]; omega
                                · by_cases h7 : io = 7
                                  · by_cases ha : (r : Int) ≤ ia
                                    · have HIN : Hid (insB fd sm.length (io, ia, ib) = false) := Lib.hid (by unfold insB; dsimp only; simp; omega)
                                      have HRES : Hid (cfgR ⟨wk, cp, bd, ws, qs, P, tk, fd, sm⟩ = 1) := Lib.hid (cfgR_no (fun q => by have y := q.2.2.2.2 j (by show j < P.length; rw [HPL.out]; exact hjq) i (by show i < (pth P j).length; rw [HLP.out]; exact him); dsimp only at y; rw [HZ.out, HIN.out] at y; cases y))
                                      have t5 : (io == 5) = false := by simp; omega
                                      have t7 : (io == 7) = true := by simp; omega
                                      have tr : decide ((r : Int) ≤ ia) = true := decide_eq_true (by have := HLS.out; omega)
                                      clear h5 h7 ha hls
                                      go_upto_region 21 with fail
                                      rw [HW.out]
                                      try rw [HG.out]
                                      clear HW HG c0 c1 c2 hb
                                      obtain ⟨x0, x1, x2, x3, x4, x5, x6, x7, x8⟩ := KX2.out.c9e
                                      have lX := KX2.out.lt
                                      obtain ⟨q0, q1, q2⟩ := KI.out.c3e
                                      have lI := KI.out.lt
                                      have BF := Lib.hid (B3.out.trans (BI.out.mono B3.out.size))
                                      go_wp2_with fail
                                      go_ret
                                      exact ⟨by rw [HRES.out]; rfl, BF.out⟩
                                    · have HIN : Hid (insB fd sm.length (io, ia, ib) = true) := Lib.hid (by unfold insB; dsimp only; simp; omega)
                                      have t5 : (io == 5) = false := by simp; omega
                                      have t7 : (io == 7) = true := by simp; omega
                                      have tr : decide ((r : Int) ≤ ia) = false := decide_eq_false (by have := HLS.out; omega)
                                      clear h5 h7 ha hls
                                      go_upto_region 21 with fail
                                      rw [HW.out]
                                      try rw [HG.out]
                                      clear HW HG c0 c1 c2 hb
                                      obtain ⟨x0, x1, x2, x3, x4, x5, x6, x7, x8⟩ := KX2.out.c9e
                                      have lX := KX2.out.lt
                                      obtain ⟨q0, q1, q2⟩ := KI.out.c3e
                                      have lI := KI.out.lt
                                      go_wp2_with fail
                                      go_roundw
                                      case rel => exact ⟨i + 1, by omega, by go_num, Lib.hid (fun i1 h1 => by rcases Nat.lt_or_ge i1 i with q9 | q9; exact OI.out i1 q9; obtain rfl : i1 = i := (by omega); rw [HZ.out]; exact HIN.out), BI⟩
                                      case measure => simp [intOf]; omega
                                  · by_cases h8 : io = 8
                                    · by_cases ha : (r : Int) ≤ ia
                                      · have HIN : Hid (insB fd sm.length (io, ia, ib) = false) := Lib.hid (by unfold insB; dsimp only; simp; omega)
                                        have HRES : Hid (cfgR ⟨wk, cp, bd, ws, qs, P, tk, fd, sm⟩ = 1) := Lib.hid (cfgR_no (fun q => by have y := q.2.2.2.2 j (by show j < P.length; rw [HPL.out]; exact hjq) i (by show i < (pth P j).length; rw [HLP.out]; exact him); dsimp only at y; rw [HZ.out, HIN.out] at y; cases y))
                                        have t5 : (io == 5) = false := by simp; omega
                                        have t7 : (io == 7) = false := by simp; omega
                                        have t8 : (io == 8) = true := by simp; omega
                                        have tr : decide ((r : Int) ≤ ia) = true := decide_eq_true (by have := HLS.out; omega)
                                        clear h5 h7 h8 ha hls
                                        go_upto_region 21 with fail
                                        rw [HW.out]
                                        try rw [HG.out]
                                        clear HW HG c0 c1 c2 hb
                                        obtain ⟨x0, x1, x2, x3, x4, x5, x6, x7, x8⟩ := KX2.out.c9e
                                        have lX := KX2.out.lt
                                        obtain ⟨q0, q1, q2⟩ := KI.out.c3e
                                        have lI := KI.out.lt
                                        have BF := Lib.hid (B3.out.trans (BI.out.mono B3.out.size))
                                        go_wp2_with fail
                                        go_ret
                                        exact ⟨by rw [HRES.out]; rfl, BF.out⟩
                                      · have HIN : Hid (insB fd sm.length (io, ia, ib) = true) := Lib.hid (by unfold insB; dsimp only; simp; omega)
                                        have t5 : (io == 5) = false := by simp; omega
                                        have t7 : (io == 7) = false := by simp; omega
                                        have t8 : (io == 8) = true := by simp; omega
                                        have tr : decide ((r : Int) ≤ ia) = false := decide_eq_false (by have := HLS.out; omega)
                                        clear h5 h7 h8 ha hls
                                        go_upto_region 21 with fail
                                        rw [HW.out]
                                        try rw [HG.out]
                                        clear HW HG c0 c1 c2 hb
                                        obtain ⟨x0, x1, x2, x3, x4, x5, x6, x7, x8⟩ := KX2.out.c9e
                                        have lX := KX2.out.lt
                                        obtain ⟨q0, q1, q2⟩ := KI.out.c3e
                                        have lI := KI.out.lt
                                        go_wp2_with fail
                                        go_roundw
                                        case rel => exact ⟨i + 1, by omega, by go_num, Lib.hid (fun i1 h1 => by rcases Nat.lt_or_ge i1 i with q9 | q9; exact OI.out i1 q9; obtain rfl : i1 = i := (by omega); rw [HZ.out]; exact HIN.out), BI⟩
                                        case measure => simp [intOf]; omega
                                    · have HIN : Hid (insB fd sm.length (io, ia, ib) = true) := Lib.hid (by unfold insB; dsimp only; simp; omega)
                                      have t5 : (io == 5) = false := by simp; omega
                                      have t7 : (io == 7) = false := by simp; omega
                                      have t8 : (io == 8) = false := by simp; omega
                                      clear h5 h7 h8 hls
                                      go_upto_region 21 with fail
                                      rw [HW.out]
                                      try rw [HG.out]
                                      clear HW HG c0 c1 c2 hb
                                      obtain ⟨x0, x1, x2, x3, x4, x5, x6, x7, x8⟩ := KX2.out.c9e
                                      have lX := KX2.out.lt
                                      obtain ⟨q0, q1, q2⟩ := KI.out.c3e
                                      have lI := KI.out.lt
                                      go_wp2_with fail
                                      go_roundw
                                      case rel => exact ⟨i + 1, by omega, by go_num, Lib.hid (fun i1 h1 => by rcases Nat.lt_or_ge i1 i with q9 | q9; exact OI.out i1 q9; obtain rfl : i1 = i := (by omega); rw [HZ.out]; exact HIN.out), BI⟩
                                      case measure => simp [intOf]; omega
                              · have hik : i = m6 := by omega
                                have OP2 : Hid (∀ j1, j1 < j + 1 → ∀ i, i < (pth P j1).length → insB fd sm.length (ith (pth P j1) i) = true) := Lib.hid (fun j1 h1 i1 h2 => by rcases Nat.lt_or_ge j1 j with q9 | q9; exact OP.out j1 q9 i1 h2; obtain rfl : j1 = j := (by omega); exact OI.out i1 (by rw [HLP.out] at h2; omega))
                                have BPI := Lib.hid (below3 BP.out BI.out)
                                subst hik
                                go_wp2_with fail
                                go_roundw
                                case rel => exact ⟨j + 1, by omega, by go_num, OP2, BPI⟩
                                case measure => simp [intOf]; omega
                          · have HRES : Hid (cfgR ⟨wk, cp, bd, ws, qs, P, tk, fd, sm⟩ = 0) := Lib.hid (cfgR_ok ⟨HHD.out, HER.out, HEL.out, HSE.out, fun j1 h1 => OP.out j1 (by dsimp only at h1; rw [HPL.out] at h1; omega)⟩)
                            have hjk : j = q := by omega
                            have BF := Lib.hid (B2.out.trans (BP.out.mono B2.out.size))
                            subst hjk
                            go_wp2_with fail
                            go_ret
                            exact ⟨by rw [HRES.out]; rfl, BF.out⟩
                  · have HBAD : Hid (¬ okC ⟨wk, cp, bd, ws, qs, P, tk, fd, sm⟩) := Lib.hid (fun q => hel q.2.2.1)
                    have HEL : Hid (errL P = 1) := Lib.hid (errL_no fun q => hel (errL_ok q))
                    have HRES : Hid (cfgR ⟨wk, cp, bd, ws, qs, P, tk, fd, sm⟩ = 1) := Lib.hid (cfgR_no (fun q => HBAD.out q))
                    clear hel her
                    go_enter Try.func11, Try.ntmps11
                    go_upto_region 1 with fail
                    rw [HV.out]
                    clear HV
                    obtain ⟨x0, x1, x2, x3, x4, x5, x6, x7, x8⟩ := KX.out.c9e
                    have lX := KX.out.lt
                    go_wp2_with fail
                    refine (rinE_any wk 1 64 _).mono ?_
                    rw [HR0.out]
                    rintro e u0 ⟨rfl, hw⟩
                    subst hw
                    go_wp2_with fail
                    refine (rinE_any cp 1 1024 _).mono ?_
                    rw [HR1.out]
                    rintro e u1 ⟨rfl, hw⟩
                    subst hw
                    go_wp2_with fail
                    refine (rinE_any bd 1 100 _).mono ?_
                    rw [HR3.out]
                    rintro e u3 ⟨rfl, hw⟩
                    subst hw
                    go_wp2_with fail
                    refine (rinE_any tk 1 256 _).mono ?_
                    rw [HR4.out]
                    rintro e u4 ⟨rfl, hw⟩
                    subst hw
                    go_wp2_with fail
                    refine (rinE_any fd 0 16 _).mono ?_
                    rw [HR5.out]
                    rintro e u5 ⟨rfl, hw⟩
                    subst hw
                    go_wp2_with fail
                    refine (rnew_tn A B n c m d ws qs _ (HX.out.below BB.out).ws (HX.out.below BB.out).qs (by have := HN.out; omega)).mono ?_
                    unfold ListTn
                    rw [HE.out]
                    rintro e UN ⟨A9, c9, rfl, -, bN⟩
                    clear x0 x1 x2 x3 x4 x5 x6 x7 x8 lX
                    replace BB := Lib.hid (below3 BB.out bN)
                    replace KX := Lib.hid (KX.out.below bN KX.out.lt)
                    clear bN
                    obtain ⟨x0, x1, x2, x3, x4, x5, x6, x7, x8⟩ := KX.out.c9e
                    have lX := KX.out.lt
                    go_wp2_with fail
                    refine (rcheckAll_any F q e P _ (HX.out.below BB.out).P).mono ?_
                    rw [HEL.out]
                    rintro e2 UC ⟨rfl, bC⟩
                    clear x0 x1 x2 x3 x4 x5 x6 x7 x8 lX
                    replace BB := Lib.hid (below3 BB.out bC)
                    replace KX := Lib.hid (KX.out.below bC KX.out.lt)
                    clear bC
                    obtain ⟨x0, x1, x2, x3, x4, x5, x6, x7, x8⟩ := KX.out.c9e
                    have lX := KX.out.lt
                    go_wp2_with fail
                    go_ret
                    exact ⟨by rw [HRES.out]; rfl, BB.out⟩
                · have HBAD : Hid (¬ okC ⟨wk, cp, bd, ws, qs, P, tk, fd, sm⟩) := Lib.hid (fun q => hne (by have := q.2.1; dsimp only at this; rw [her] at this; exact this))
                  have HRES : Hid (cfgR ⟨wk, cp, bd, ws, qs, P, tk, fd, sm⟩ = 1) := Lib.hid (cfgR_no (fun q => HBAD.out q))
                  have tne : (er != 0) = true := by simpa using hne
                  clear hne her
                  go_enter Try.func11, Try.ntmps11
                  go_upto_region 1 with fail
                  rw [HV.out]
                  clear HV
                  obtain ⟨x0, x1, x2, x3, x4, x5, x6, x7, x8⟩ := KX.out.c9e
                  have lX := KX.out.lt
                  go_wp2_with fail
                  refine (rinE_any wk 1 64 _).mono ?_
                  rw [HR0.out]
                  rintro e u0 ⟨rfl, hw⟩
                  subst hw
                  go_wp2_with fail
                  refine (rinE_any cp 1 1024 _).mono ?_
                  rw [HR1.out]
                  rintro e u1 ⟨rfl, hw⟩
                  subst hw
                  go_wp2_with fail
                  refine (rinE_any bd 1 100 _).mono ?_
                  rw [HR3.out]
                  rintro e u3 ⟨rfl, hw⟩
                  subst hw
                  go_wp2_with fail
                  refine (rinE_any tk 1 256 _).mono ?_
                  rw [HR4.out]
                  rintro e u4 ⟨rfl, hw⟩
                  subst hw
                  go_wp2_with fail
                  refine (rinE_any fd 0 16 _).mono ?_
                  rw [HR5.out]
                  rintro e u5 ⟨rfl, hw⟩
                  subst hw
                  go_wp2_with fail
                  refine (rnew_tn A B n c m d ws qs _ (HX.out.below BB.out).ws (HX.out.below BB.out).qs (by have := HN.out; omega)).mono ?_
                  unfold ListTn
                  rw [HE.out]
                  rintro e UN ⟨A9, c9, rfl, -, bN⟩
                  clear x0 x1 x2 x3 x4 x5 x6 x7 x8 lX
                  replace BB := Lib.hid (below3 BB.out bN)
                  replace KX := Lib.hid (KX.out.below bN KX.out.lt)
                  clear bN
                  obtain ⟨x0, x1, x2, x3, x4, x5, x6, x7, x8⟩ := KX.out.c9e
                  have lX := KX.out.lt
                  go_wp2_with fail
                  go_ret
                  exact ⟨by rw [HRES.out]; rfl, BB.out⟩
              · as_aux_lemma =>
                  have HBAD : Hid (¬ okC ⟨wk, cp, bd, ws, qs, P, tk, fd, sm⟩) := Lib.hid (fun q => by have z := q.1; unfold headC at z; dsimp only at z; rw [HLS.out] at z; omega)
                  have HR0 : Hid ((decide ((1 : Int) ≤ wk) && decide (wk ≤ 64)) = true) := Lib.hid (by simp; omega)
                  have HR1 : Hid ((decide ((1 : Int) ≤ cp) && decide (cp ≤ 1024)) = true) := Lib.hid (by simp; omega)
                  have t2 : decide ((65536 : Int) < wk * (cp + 2)) = false := decide_eq_false (by omega)
                  have HR3 : Hid ((decide ((1 : Int) ≤ bd) && decide (bd ≤ 100)) = true) := Lib.hid (by simp; omega)
                  have HR4 : Hid ((decide ((1 : Int) ≤ tk) && decide (tk ≤ 256)) = true) := Lib.hid (by simp; omega)
                  have HR5 : Hid ((decide ((0 : Int) ≤ fd) && decide (fd ≤ 16)) = true) := Lib.hid (by simp; omega)
                  have t6 : decide ((8 : Int) < (r : Int)) = true := decide_eq_true (by have := HLS.out; omega)
                  have t6n : decide (8 < r) = true := decide_eq_true (by have := HLS.out; omega)
                  have ec : IntKind.i64.wrap (cp + 2) = cp + 2 := by rw [IntKind.wrap_i64]; omega
                  have hp1 : 0 ≤ wk * (cp + 2) := Int.mul_nonneg (by omega) (by omega)
                  have hp2 : wk * (cp + 2) ≤ 64 * 1026 := Int.mul_le_mul (by omega) (by omega) (by omega) (by omega)
                  obtain ⟨pr, hpr⟩ : ∃ p, wk * (cp + 2) = p := ⟨_, rfl⟩
                  rw [hpr] at hp1 hp2
                  have ep : IntKind.i64.wrap pr = pr := by rw [IntKind.wrap_i64]; omega
                  rw [hpr] at t2
                  have HRES : Hid (cfgR ⟨wk, cp, bd, ws, qs, P, tk, fd, sm⟩ = 1) := Lib.hid (cfgR_no (fun q => HBAD.out q))
                  clear g0 g1 g2 g3 g4 g5 g6
                  go_enter Try.func11, Try.ntmps11
                  go_upto_region 1 with fail
                  rw [HV.out]
                  clear HV
                  obtain ⟨x0, x1, x2, x3, x4, x5, x6, x7, x8⟩ := KX.out.c9e
                  have lX := KX.out.lt
                  go_wp2_with fail
                  refine (rinE_any wk 1 64 _).mono ?_
                  rw [HR0.out]
                  rintro e u0 ⟨rfl, hw⟩
                  subst hw
                  go_wp2_with fail
                  refine (rinE_any cp 1 1024 _).mono ?_
                  rw [HR1.out]
                  rintro e u1 ⟨rfl, hw⟩
                  subst hw
                  go_wp2_with fail
                  refine (rinE_any bd 1 100 _).mono ?_
                  rw [HR3.out]
                  rintro e u3 ⟨rfl, hw⟩
                  subst hw
                  go_wp2_with fail
                  refine (rinE_any tk 1 256 _).mono ?_
                  rw [HR4.out]
                  rintro e u4 ⟨rfl, hw⟩
                  subst hw
                  go_wp2_with fail
                  refine (rinE_any fd 0 16 _).mono ?_
                  rw [HR5.out]
                  rintro e u5 ⟨rfl, hw⟩
                  subst hw
                  go_wp2_with fail
                  go_ret
                  exact ⟨by rw [HRES.out]; rfl, BB.out⟩
            · as_aux_lemma =>
                have HBAD : Hid (¬ okC ⟨wk, cp, bd, ws, qs, P, tk, fd, sm⟩) := Lib.hid (fun q => by have z := q.1; unfold headC at z; dsimp only at z; omega)
                have HR0 : Hid ((decide ((1 : Int) ≤ wk) && decide (wk ≤ 64)) = true) := Lib.hid (by simp; omega)
                have HR1 : Hid ((decide ((1 : Int) ≤ cp) && decide (cp ≤ 1024)) = true) := Lib.hid (by simp; omega)
                have t2 : decide ((65536 : Int) < wk * (cp + 2)) = false := decide_eq_false (by omega)
                have HR3 : Hid ((decide ((1 : Int) ≤ bd) && decide (bd ≤ 100)) = true) := Lib.hid (by simp; omega)
                have HR4 : Hid ((decide ((1 : Int) ≤ tk) && decide (tk ≤ 256)) = true) := Lib.hid (by simp; omega)
                have HR5 : Hid ((decide ((0 : Int) ≤ fd) && decide (fd ≤ 16)) = false) := Lib.hid (by simp; omega)
                have ec : IntKind.i64.wrap (cp + 2) = cp + 2 := by rw [IntKind.wrap_i64]; omega
                have hp1 : 0 ≤ wk * (cp + 2) := Int.mul_nonneg (by omega) (by omega)
                have hp2 : wk * (cp + 2) ≤ 64 * 1026 := Int.mul_le_mul (by omega) (by omega) (by omega) (by omega)
                obtain ⟨pr, hpr⟩ : ∃ p, wk * (cp + 2) = p := ⟨_, rfl⟩
                rw [hpr] at hp1 hp2
                have ep : IntKind.i64.wrap pr = pr := by rw [IntKind.wrap_i64]; omega
                rw [hpr] at t2
                have HRES : Hid (cfgR ⟨wk, cp, bd, ws, qs, P, tk, fd, sm⟩ = 1) := Lib.hid (cfgR_no (fun q => HBAD.out q))
                clear g0 g1 g2 g3 g4 g5
                go_enter Try.func11, Try.ntmps11
                go_upto_region 1 with fail
                rw [HV.out]
                clear HV
                obtain ⟨x0, x1, x2, x3, x4, x5, x6, x7, x8⟩ := KX.out.c9e
                have lX := KX.out.lt
                go_wp2_with fail
                refine (rinE_any wk 1 64 _).mono ?_
                rw [HR0.out]
                rintro e u0 ⟨rfl, hw⟩
                subst hw
                go_wp2_with fail
                refine (rinE_any cp 1 1024 _).mono ?_
                rw [HR1.out]
                rintro e u1 ⟨rfl, hw⟩
                subst hw
                go_wp2_with fail
                refine (rinE_any bd 1 100 _).mono ?_
                rw [HR3.out]
                rintro e u3 ⟨rfl, hw⟩
                subst hw
                go_wp2_with fail
                refine (rinE_any tk 1 256 _).mono ?_
                rw [HR4.out]
                rintro e u4 ⟨rfl, hw⟩
                subst hw
                go_wp2_with fail
                refine (rinE_any fd 0 16 _).mono ?_
                rw [HR5.out]
                rintro e u5 ⟨rfl, hw⟩
                subst hw
                go_wp2_with fail
                go_ret
                exact ⟨by rw [HRES.out]; rfl, BB.out⟩
          · as_aux_lemma =>
              have HBAD : Hid (¬ okC ⟨wk, cp, bd, ws, qs, P, tk, fd, sm⟩) := Lib.hid (fun q => by have z := q.1; unfold headC at z; dsimp only at z; omega)
              have HR0 : Hid ((decide ((1 : Int) ≤ wk) && decide (wk ≤ 64)) = true) := Lib.hid (by simp; omega)
              have HR1 : Hid ((decide ((1 : Int) ≤ cp) && decide (cp ≤ 1024)) = true) := Lib.hid (by simp; omega)
              have t2 : decide ((65536 : Int) < wk * (cp + 2)) = false := decide_eq_false (by omega)
              have HR3 : Hid ((decide ((1 : Int) ≤ bd) && decide (bd ≤ 100)) = true) := Lib.hid (by simp; omega)
              have HR4 : Hid ((decide ((1 : Int) ≤ tk) && decide (tk ≤ 256)) = false) := Lib.hid (by simp; omega)
              have ec : IntKind.i64.wrap (cp + 2) = cp + 2 := by rw [IntKind.wrap_i64]; omega
              have hp1 : 0 ≤ wk * (cp + 2) := Int.mul_nonneg (by omega) (by omega)
              have hp2 : wk * (cp + 2) ≤ 64 * 1026 := Int.mul_le_mul (by omega) (by omega) (by omega) (by omega)
              obtain ⟨pr, hpr⟩ : ∃ p, wk * (cp + 2) = p := ⟨_, rfl⟩
              rw [hpr] at hp1 hp2
              have ep : IntKind.i64.wrap pr = pr := by rw [IntKind.wrap_i64]; omega
              rw [hpr] at t2
              have HRES : Hid (cfgR ⟨wk, cp, bd, ws, qs, P, tk, fd, sm⟩ = 1) := Lib.hid (cfgR_no (fun q => HBAD.out q))
              clear g0 g1 g2 g3 g4
              go_enter Try.func11, Try.ntmps11
              go_upto_region 1 with fail
              rw [HV.out]
              clear HV
              obtain ⟨x0, x1, x2, x3, x4, x5, x6, x7, x8⟩ := KX.out.c9e
              have lX := KX.out.lt
              go_wp2_with fail
              refine (rinE_any wk 1 64 _).mono ?_
              rw [HR0.out]
              rintro e u0 ⟨rfl, hw⟩
              subst hw
              go_wp2_with fail
              refine (rinE_any cp 1 1024 _).mono ?_
              rw [HR1.out]
              rintro e u1 ⟨rfl, hw⟩
              subst hw
              go_wp2_with fail
              refine (rinE_any bd 1 100 _).mono ?_
              rw [HR3.out]
              rintro e u3 ⟨rfl, hw⟩
              subst hw
              go_wp2_with fail
              refine (rinE_any tk 1 256 _).mono ?_
              rw [HR4.out]
              rintro e u4 ⟨rfl, hw⟩
              subst hw
              go_wp2_with fail
              go_ret
              exact ⟨by rw [HRES.out]; rfl, BB.out⟩
        · as_aux_lemma =>
            have HBAD : Hid (¬ okC ⟨wk, cp, bd, ws, qs, P, tk, fd, sm⟩) := Lib.hid (fun q => by have z := q.1; unfold headC at z; dsimp only at z; omega)
            have HR0 : Hid ((decide ((1 : Int) ≤ wk) && decide (wk ≤ 64)) = true) := Lib.hid (by simp; omega)
            have HR1 : Hid ((decide ((1 : Int) ≤ cp) && decide (cp ≤ 1024)) = true) := Lib.hid (by simp; omega)
            have t2 : decide ((65536 : Int) < wk * (cp + 2)) = false := decide_eq_false (by omega)
            have HR3 : Hid ((decide ((1 : Int) ≤ bd) && decide (bd ≤ 100)) = false) := Lib.hid (by simp; omega)
            have ec : IntKind.i64.wrap (cp + 2) = cp + 2 := by rw [IntKind.wrap_i64]; omega
            have hp1 : 0 ≤ wk * (cp + 2) := Int.mul_nonneg (by omega) (by omega)
            have hp2 : wk * (cp + 2) ≤ 64 * 1026 := Int.mul_le_mul (by omega) (by omega) (by omega) (by omega)
            obtain ⟨pr, hpr⟩ : ∃ p, wk * (cp + 2) = p := ⟨_, rfl⟩
            rw [hpr] at hp1 hp2
            have ep : IntKind.i64.wrap pr = pr := by rw [IntKind.wrap_i64]; omega
            rw [hpr] at t2
            have HRES : Hid (cfgR ⟨wk, cp, bd, ws, qs, P, tk, fd, sm⟩ = 1) := Lib.hid (cfgR_no (fun q => HBAD.out q))
            clear g0 g1 g2 g3
            go_enter Try.func11, Try.ntmps11
            go_upto_region 1 with fail
            rw [HV.out]
            clear HV
            obtain ⟨x0, x1, x2, x3, x4, x5, x6, x7, x8⟩ := KX.out.c9e
            have lX := KX.out.lt
            go_wp2_with fail
            refine (rinE_any wk 1 64 _).mono ?_
            rw [HR0.out]
            rintro e u0 ⟨rfl, hw⟩
            subst hw
            go_wp2_with fail
            refine (rinE_any cp 1 1024 _).mono ?_
            rw [HR1.out]
            rintro e u1 ⟨rfl, hw⟩
            subst hw
            go_wp2_with fail
            refine (rinE_any bd 1 100 _).mono ?_
            rw [HR3.out]
            rintro e u3 ⟨rfl, hw⟩
            subst hw
            go_wp2_with fail
            go_ret
            exact ⟨by rw [HRES.out]; rfl, BB.out⟩
      · as_aux_lemma =>
          have HBAD : Hid (¬ okC ⟨wk, cp, bd, ws, qs, P, tk, fd, sm⟩) := Lib.hid (fun q => by have z := q.1; unfold headC at z; dsimp only at z; omega)
          have HR0 : Hid ((decide ((1 : Int) ≤ wk) && decide (wk ≤ 64)) = true) := Lib.hid (by simp; omega)
          have HR1 : Hid ((decide ((1 : Int) ≤ cp) && decide (cp ≤ 1024)) = true) := Lib.hid (by simp; omega)
          have t2 : decide ((65536 : Int) < wk * (cp + 2)) = true := decide_eq_true (by omega)
          have ec : IntKind.i64.wrap (cp + 2) = cp + 2 := by rw [IntKind.wrap_i64]; omega
          have hp1 : 0 ≤ wk * (cp + 2) := Int.mul_nonneg (by omega) (by omega)
          have hp2 : wk * (cp + 2) ≤ 64 * 1026 := Int.mul_le_mul (by omega) (by omega) (by omega) (by omega)
          obtain ⟨pr, hpr⟩ : ∃ p, wk * (cp + 2) = p := ⟨_, rfl⟩
          rw [hpr] at hp1 hp2
          have ep : IntKind.i64.wrap pr = pr := by rw [IntKind.wrap_i64]; omega
          rw [hpr] at t2
          have HRES : Hid (cfgR ⟨wk, cp, bd, ws, qs, P, tk, fd, sm⟩ = 1) := Lib.hid (cfgR_no (fun q => HBAD.out q))
          clear g0 g1 g2
          go_enter Try.func11, Try.ntmps11
          go_upto_region 1 with fail
          rw [HV.out]
          clear HV
          obtain ⟨x0, x1, x2, x3, x4, x5, x6, x7, x8⟩ := KX.out.c9e
          have lX := KX.out.lt
          go_wp2_with fail
          refine (rinE_any wk 1 64 _).mono ?_
          rw [HR0.out]
          rintro e u0 ⟨rfl, hw⟩
          subst hw
          go_wp2_with fail
          refine (rinE_any cp 1 1024 _).mono ?_
          rw [HR1.out]
          rintro e u1 ⟨rfl, hw⟩
          subst hw
          go_wp2_with fail
          go_ret
          exact ⟨by rw [HRES.out]; rfl, BB.out⟩
    · as_aux_lemma =>
        have HBAD : Hid (¬ okC ⟨wk, cp, bd, ws, qs, P, tk, fd, sm⟩) := Lib.hid (fun q => by have z := q.1; unfold headC at z; dsimp only at z; omega)
        have HR0 : Hid ((decide ((1 : Int) ≤ wk) && decide (wk ≤ 64)) = true) := Lib.hid (by simp; omega)
        have HR1 : Hid ((decide ((1 : Int) ≤ cp) && decide (cp ≤ 1024)) = false) := Lib.hid (by simp; omega)
        have HRES : Hid (cfgR ⟨wk, cp, bd, ws, qs, P, tk, fd, sm⟩ = 1) := Lib.hid (cfgR_no (fun q => HBAD.out q))
        clear g0 g1
        go_enter Try.func11, Try.ntmps11
        go_upto_region 1 with fail
        rw [HV.out]
        clear HV
        obtain ⟨x0, x1, x2, x3, x4, x5, x6, x7, x8⟩ := KX.out.c9e
        have lX := KX.out.lt
        go_wp2_with fail
        refine (rinE_any wk 1 64 _).mono ?_
        rw [HR0.out]
        rintro e u0 ⟨rfl, hw⟩
        subst hw
        go_wp2_with fail
        refine (rinE_any cp 1 1024 _).mono ?_
        rw [HR1.out]
        rintro e u1 ⟨rfl, hw⟩
        subst hw
        go_wp2_with fail
        go_ret
        exact ⟨by rw [HRES.out]; rfl, BB.out⟩
  · as_aux_lemma =>
      have HBAD : Hid (¬ okC ⟨wk, cp, bd, ws, qs, P, tk, fd, sm⟩) := Lib.hid (fun q => by have z := q.1; unfold headC at z; dsimp only at z; omega)
      have HR0 : Hid ((decide ((1 : Int) ≤ wk) && decide (wk ≤ 64)) = false) := Lib.hid (by simp; omega)
      have HRES : Hid (cfgR ⟨wk, cp, bd, ws, qs, P, tk, fd, sm⟩ = 1) := Lib.hid (cfgR_no (fun q => HBAD.out q))
      clear g0
      go_enter Try.func11, Try.ntmps11
      go_upto_region 1 with fail
      rw [HV.out]
      clear HV
      obtain ⟨x0, x1, x2, x3, x4, x5, x6, x7, x8⟩ := KX.out.c9e
      have lX := KX.out.lt
      go_wp2_with fail
      refine (rinE_any wk 1 64 _).mono ?_
      rw [HR0.out]
      rintro e u0 ⟨rfl, hw⟩
      subst hw
      go_wp2_with fail
      go_ret
      exact ⟨by rw [HRES.out]; rfl, BB.out⟩

end Go.Proofs.Ytpfnoohcilefhaa

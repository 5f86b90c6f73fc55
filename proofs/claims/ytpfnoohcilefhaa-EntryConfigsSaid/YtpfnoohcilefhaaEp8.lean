/-
  Layer 19, the program: Config, Same.
-/
import Derived.Test.YtpfnoohcilefhaaEp7
import Derived.Test.YtpfnoohcilefhaaEp1
import Derived.Laws.EntriesVeiled
namespace Go.Proofs.Ytpfnoohcilefhaa
open Go.RowKit

/-- The parts of what a config may be. -/
def sizedB (x : Cf) : Bool := (decide (1 ≤ x.wk) && decide (x.wk ≤ 64)) && (decide (1 ≤ x.cp) && decide (x.cp ≤ 1024)) && decide (x.wk * (x.cp + 2) ≤ 65536) && (decide (1 ≤ x.bd) && decide (x.bd ≤ 100)) && (decide (1 ≤ x.tk) && decide (x.tk ≤ 256)) && (decide (0 ≤ x.fd) && decide (x.fd ≤ 16))
noncomputable def filB (x : Cf) : Bool := decide ((newLn x.ws x.qs).1 = 0) && decide (errL x.P = 0) && decide (x.sm.length ≤ 8) && !anyQ x.sm.length (badS x.sm)
def supB (x : Cf) : Bool := !anyQ x.P.length (rowB x.fd x.sm.length x.P)
theorem okC_iff {x : Cf} : okC x ↔ sizedB x = true ∧ filB x = true ∧ supB x = true := by
  unfold okC headC sizedB filB supB
  rw [progC_iff, semsC_iff]
  simp only [Bool.and_eq_true, decide_eq_true_eq, Bool.not_eq_true']
  constructor
  · rintro ⟨⟨⟨a1, a2⟩, ⟨a3, a4⟩, a5, ⟨a6, a7⟩, ⟨a8, a9⟩, ⟨b1, b2⟩, b3⟩, b4, b5, b6, b7⟩
    exact ⟨⟨⟨⟨⟨⟨⟨a1, a2⟩, a3, a4⟩, a5⟩, a6, a7⟩, a8, a9⟩, b1, b2⟩, ⟨⟨⟨b4, b5⟩, b3⟩, b6⟩, b7⟩
  · rintro ⟨⟨⟨⟨⟨⟨⟨a1, a2⟩, a3, a4⟩, a5⟩, a6, a7⟩, a8, a9⟩, b1, b2⟩, ⟨⟨⟨b4, b5⟩, b3⟩, b6⟩, b7⟩
    exact ⟨⟨⟨a1, a2⟩, ⟨a3, a4⟩, a5, ⟨a6, a7⟩, ⟨a8, a9⟩, ⟨b1, b2⟩, b3⟩, b4, b5, b6, b7⟩

set_option maxRecDepth 100000 in
set_option maxHeartbeats 4000000 in
theorem sized_en (x : Cf) (a : CfA) (w : World) :
    Calls Try.prog 26 #[.agg (cfc x a)] w (RetB (.bool (sizedB x)) w) := by
  obtain ⟨wk, cp, bd, ws, qs, P, tk, fd, sm⟩ := x
  obtain ⟨A, n, c, B, m, d, F, q, e, G, r, h⟩ := a
  dsimp only [cfc]
  obtain ⟨kb0, hb0⟩ := lay1 w #[.int .i64 wk, .int .i64 cp, .int .i64 bd, .slice A n c, .slice B m d, .slice F q e, .int .i64 tk, .int .i64 fd, .slice G r h] 25
  obtain ⟨V, hV⟩ : ∃ V, w.alloc (.cells #[.int .i64 wk, .int .i64 cp, .int .i64 bd, .slice A n c, .slice B m d, .slice F q e, .int .i64 tk, .int .i64 fd, .slice G r h] 25) = V := ⟨_, rfl⟩
  rw [hV] at kb0 hb0
  have HV := Lib.hid hV
  have BB := Lib.hid hb0
  have KX := Lib.hid kb0
  clear hV hb0 kb0
  by_cases g0 : 1 ≤ wk ∧ wk ≤ 64
  · by_cases g1 : 1 ≤ cp ∧ cp ≤ 1024
    · by_cases g2 : wk * (cp + 2) ≤ 65536
      · by_cases g3 : 1 ≤ bd ∧ bd ≤ 100
        · by_cases g4 : 1 ≤ tk ∧ tk ≤ 256
          · by_cases g5 : 0 ≤ fd ∧ fd ≤ 16
            · have hr0 : (decide ((1 : Int) ≤ wk) && decide (wk ≤ 64)) = true := by simp; omega
              have hr1 : (decide ((1 : Int) ≤ cp) && decide (cp ≤ 1024)) = true := by simp; omega
              have hr2 : decide (wk * (cp + 2) ≤ 65536) = true := decide_eq_true g2
              have hr3 : (decide ((1 : Int) ≤ bd) && decide (bd ≤ 100)) = true := by simp; omega
              have hr4 : (decide ((1 : Int) ≤ tk) && decide (tk ≤ 256)) = true := by simp; omega
              have hr5 : (decide ((0 : Int) ≤ fd) && decide (fd ≤ 16)) = true := by simp; omega
              have HRES : Hid (sizedB ⟨wk, cp, bd, ws, qs, P, tk, fd, sm⟩ = true) := Lib.hid (by unfold sizedB; dsimp only; rw [hr0, hr1, hr2, hr3, hr4, hr5]; rfl)
              have HR0 := Lib.hid hr0
              have HR1 := Lib.hid hr1
              have HR3 := Lib.hid hr3
              have HR4 := Lib.hid hr4
              have HR5 := Lib.hid hr5
              have ec : IntKind.i64.wrap (cp + 2) = cp + 2 := by rw [IntKind.wrap_i64]; omega
              have hp1 : 0 ≤ wk * (cp + 2) := Int.mul_nonneg (by omega) (by omega)
              have hp2 : wk * (cp + 2) ≤ 64 * 1026 := Int.mul_le_mul (by omega) (by omega) (by omega) (by omega)
              obtain ⟨pr, hpr⟩ : ∃ p, wk * (cp + 2) = p := ⟨_, rfl⟩
              rw [hpr] at hp1 hp2 hr2
              have ep : IntKind.i64.wrap pr = pr := by rw [IntKind.wrap_i64]; omega
              clear hp1 hp2
              clear g0 g1 g2 g3 g4 g5 hr0 hr1 hr3 hr4 hr5
              go_enter Try.func26, Try.ntmps26
              go_upto_region 1 with fail
              rw [HV.out]
              clear HV
              obtain ⟨x0, x1, x2, x3, x4, x5, x6, x7, x8⟩ := KX.out.c9e
              have lX := KX.out.lt
              go_wp2_with fail
              refine (within_en wk 1 64 _).mono ?_
              rw [HR0.out]
              rintro e u0 ⟨rfl, hw⟩
              subst hw
              go_wp2_with fail
              refine (within_en cp 1 1024 _).mono ?_
              rw [HR1.out]
              rintro e u1 ⟨rfl, hw⟩
              subst hw
              go_wp2_with fail
              refine (within_en bd 1 100 _).mono ?_
              rw [HR3.out]
              rintro e u3 ⟨rfl, hw⟩
              subst hw
              go_wp2_with fail
              refine (within_en tk 1 256 _).mono ?_
              rw [HR4.out]
              rintro e u4 ⟨rfl, hw⟩
              subst hw
              go_wp2_with fail
              refine (within_en fd 0 16 _).mono ?_
              rw [HR5.out]
              rintro e u5 ⟨rfl, hw⟩
              subst hw
              go_wp2_with fail
              go_ret
              exact ⟨by rw [HRES.out]; rfl, BB.out⟩
            · have hr0 : (decide ((1 : Int) ≤ wk) && decide (wk ≤ 64)) = true := by simp; omega
              have hr1 : (decide ((1 : Int) ≤ cp) && decide (cp ≤ 1024)) = true := by simp; omega
              have hr2 : decide (wk * (cp + 2) ≤ 65536) = true := decide_eq_true g2
              have hr3 : (decide ((1 : Int) ≤ bd) && decide (bd ≤ 100)) = true := by simp; omega
              have hr4 : (decide ((1 : Int) ≤ tk) && decide (tk ≤ 256)) = true := by simp; omega
              have hr5 : (decide ((0 : Int) ≤ fd) && decide (fd ≤ 16)) = false := by simp; omega
              have HRES : Hid (sizedB ⟨wk, cp, bd, ws, qs, P, tk, fd, sm⟩ = false) := Lib.hid (by unfold sizedB; dsimp only; rw [hr0, hr1, hr2, hr3, hr4, hr5]; simp)
              have HR0 := Lib.hid hr0
              have HR1 := Lib.hid hr1
              have HR3 := Lib.hid hr3
              have HR4 := Lib.hid hr4
              have HR5 := Lib.hid hr5
              have ec : IntKind.i64.wrap (cp + 2) = cp + 2 := by rw [IntKind.wrap_i64]; omega
              have hp1 : 0 ≤ wk * (cp + 2) := Int.mul_nonneg (by omega) (by omega)
              have hp2 : wk * (cp + 2) ≤ 64 * 1026 := Int.mul_le_mul (by omega) (by omega) (by omega) (by omega)
              obtain ⟨pr, hpr⟩ : ∃ p, wk * (cp + 2) = p := ⟨_, rfl⟩
              rw [hpr] at hp1 hp2 hr2
              have ep : IntKind.i64.wrap pr = pr := by rw [IntKind.wrap_i64]; omega
              clear hp1 hp2
              clear g0 g1 g2 g3 g4 g5 hr0 hr1 hr3 hr4 hr5
              go_enter Try.func26, Try.ntmps26
              go_upto_region 1 with fail
              rw [HV.out]
              clear HV
              obtain ⟨x0, x1, x2, x3, x4, x5, x6, x7, x8⟩ := KX.out.c9e
              have lX := KX.out.lt
              go_wp2_with fail
              refine (within_en wk 1 64 _).mono ?_
              rw [HR0.out]
              rintro e u0 ⟨rfl, hw⟩
              subst hw
              go_wp2_with fail
              refine (within_en cp 1 1024 _).mono ?_
              rw [HR1.out]
              rintro e u1 ⟨rfl, hw⟩
              subst hw
              go_wp2_with fail
              refine (within_en bd 1 100 _).mono ?_
              rw [HR3.out]
              rintro e u3 ⟨rfl, hw⟩
              subst hw
              go_wp2_with fail
              refine (within_en tk 1 256 _).mono ?_
              rw [HR4.out]
              rintro e u4 ⟨rfl, hw⟩
              subst hw
              go_wp2_with fail
              refine (within_en fd 0 16 _).mono ?_
              rw [HR5.out]
              rintro e u5 ⟨rfl, hw⟩
              subst hw
              go_wp2_with fail
              go_ret
              exact ⟨by rw [HRES.out]; rfl, BB.out⟩
          · have hr0 : (decide ((1 : Int) ≤ wk) && decide (wk ≤ 64)) = true := by simp; omega
            have hr1 : (decide ((1 : Int) ≤ cp) && decide (cp ≤ 1024)) = true := by simp; omega
            have hr2 : decide (wk * (cp + 2) ≤ 65536) = true := decide_eq_true g2
            have hr3 : (decide ((1 : Int) ≤ bd) && decide (bd ≤ 100)) = true := by simp; omega
            have hr4 : (decide ((1 : Int) ≤ tk) && decide (tk ≤ 256)) = false := by simp; omega
            have HRES : Hid (sizedB ⟨wk, cp, bd, ws, qs, P, tk, fd, sm⟩ = false) := Lib.hid (by unfold sizedB; dsimp only; rw [hr0, hr1, hr2, hr3, hr4]; simp)
            have HR0 := Lib.hid hr0
            have HR1 := Lib.hid hr1
            have HR3 := Lib.hid hr3
            have HR4 := Lib.hid hr4
            have ec : IntKind.i64.wrap (cp + 2) = cp + 2 := by rw [IntKind.wrap_i64]; omega
            have hp1 : 0 ≤ wk * (cp + 2) := Int.mul_nonneg (by omega) (by omega)
            have hp2 : wk * (cp + 2) ≤ 64 * 1026 := Int.mul_le_mul (by omega) (by omega) (by omega) (by omega)
            obtain ⟨pr, hpr⟩ : ∃ p, wk * (cp + 2) = p := ⟨_, rfl⟩
            rw [hpr] at hp1 hp2 hr2
            have ep : IntKind.i64.wrap pr = pr := by rw [IntKind.wrap_i64]; omega
            clear hp1 hp2
            clear g0 g1 g2 g3 g4 hr0 hr1 hr3 hr4
            go_enter Try.func26, Try.ntmps26
            go_upto_region 1 with fail
            rw [HV.out]
            clear HV
            obtain ⟨x0, x1, x2, x3, x4, x5, x6, x7, x8⟩ := KX.out.c9e
            have lX := KX.out.lt
            go_wp2_with fail
            refine (within_en wk 1 64 _).mono ?_
            rw [HR0.out]
            rintro e u0 ⟨rfl, hw⟩
            subst hw
            go_wp2_with fail
            refine (within_en cp 1 1024 _).mono ?_
            rw [HR1.out]
            rintro e u1 ⟨rfl, hw⟩
            subst hw
            go_wp2_with fail
            refine (within_en bd 1 100 _).mono ?_
            rw [HR3.out]
            rintro e u3 ⟨rfl, hw⟩
            subst hw
            go_wp2_with fail
            refine (within_en tk 1 256 _).mono ?_
            rw [HR4.out]
            rintro e u4 ⟨rfl, hw⟩
            subst hw
            go_wp2_with fail
            go_ret
            exact ⟨by rw [HRES.out]; rfl, BB.out⟩
        · have hr0 : (decide ((1 : Int) ≤ wk) && decide (wk ≤ 64)) = true := by simp; omega
          have hr1 : (decide ((1 : Int) ≤ cp) && decide (cp ≤ 1024)) = true := by simp; omega
          have hr2 : decide (wk * (cp + 2) ≤ 65536) = true := decide_eq_true g2
          have hr3 : (decide ((1 : Int) ≤ bd) && decide (bd ≤ 100)) = false := by simp; omega
          have HRES : Hid (sizedB ⟨wk, cp, bd, ws, qs, P, tk, fd, sm⟩ = false) := Lib.hid (by unfold sizedB; dsimp only; rw [hr0, hr1, hr2, hr3]; simp)
          have HR0 := Lib.hid hr0
          have HR1 := Lib.hid hr1
          have HR3 := Lib.hid hr3
          have ec : IntKind.i64.wrap (cp + 2) = cp + 2 := by rw [IntKind.wrap_i64]; omega
          have hp1 : 0 ≤ wk * (cp + 2) := Int.mul_nonneg (by omega) (by omega)
          have hp2 : wk * (cp + 2) ≤ 64 * 1026 := Int.mul_le_mul (by omega) (by omega) (by omega) (by omega)
          obtain ⟨pr, hpr⟩ : ∃ p, wk * (cp + 2) = p := ⟨_, rfl⟩
          rw [hpr] at hp1 hp2 hr2
          have ep : IntKind.i64.wrap pr = pr := by rw [IntKind.wrap_i64]; omega
          clear hp1 hp2
          clear g0 g1 g2 g3 hr0 hr1 hr3
          go_enter Try.func26, Try.ntmps26
          go_upto_region 1 with fail
          rw [HV.out]
          clear HV
          obtain ⟨x0, x1, x2, x3, x4, x5, x6, x7, x8⟩ := KX.out.c9e
          have lX := KX.out.lt
          go_wp2_with fail
          refine (within_en wk 1 64 _).mono ?_
          rw [HR0.out]
          rintro e u0 ⟨rfl, hw⟩
          subst hw
          go_wp2_with fail
          refine (within_en cp 1 1024 _).mono ?_
          rw [HR1.out]
          rintro e u1 ⟨rfl, hw⟩
          subst hw
          go_wp2_with fail
          refine (within_en bd 1 100 _).mono ?_
          rw [HR3.out]
          rintro e u3 ⟨rfl, hw⟩
          subst hw
          go_wp2_with fail
          go_ret
          exact ⟨by rw [HRES.out]; rfl, BB.out⟩
      · have hr0 : (decide ((1 : Int) ≤ wk) && decide (wk ≤ 64)) = true := by simp; omega
        have hr1 : (decide ((1 : Int) ≤ cp) && decide (cp ≤ 1024)) = true := by simp; omega
        have hr2 : decide (wk * (cp + 2) ≤ 65536) = false := decide_eq_false g2
        have HRES : Hid (sizedB ⟨wk, cp, bd, ws, qs, P, tk, fd, sm⟩ = false) := Lib.hid (by unfold sizedB; dsimp only; rw [hr0, hr1, hr2]; simp)
        have HR0 := Lib.hid hr0
        have HR1 := Lib.hid hr1
        have ec : IntKind.i64.wrap (cp + 2) = cp + 2 := by rw [IntKind.wrap_i64]; omega
        have hp1 : 0 ≤ wk * (cp + 2) := Int.mul_nonneg (by omega) (by omega)
        have hp2 : wk * (cp + 2) ≤ 64 * 1026 := Int.mul_le_mul (by omega) (by omega) (by omega) (by omega)
        obtain ⟨pr, hpr⟩ : ∃ p, wk * (cp + 2) = p := ⟨_, rfl⟩
        rw [hpr] at hp1 hp2 hr2
        have ep : IntKind.i64.wrap pr = pr := by rw [IntKind.wrap_i64]; omega
        clear hp1 hp2
        clear g0 g1 g2 hr0 hr1
        go_enter Try.func26, Try.ntmps26
        go_upto_region 1 with fail
        rw [HV.out]
        clear HV
        obtain ⟨x0, x1, x2, x3, x4, x5, x6, x7, x8⟩ := KX.out.c9e
        have lX := KX.out.lt
        go_wp2_with fail
        refine (within_en wk 1 64 _).mono ?_
        rw [HR0.out]
        rintro e u0 ⟨rfl, hw⟩
        subst hw
        go_wp2_with fail
        refine (within_en cp 1 1024 _).mono ?_
        rw [HR1.out]
        rintro e u1 ⟨rfl, hw⟩
        subst hw
        go_wp2_with fail
        go_ret
        exact ⟨by rw [HRES.out]; rfl, BB.out⟩
    · have hr0 : (decide ((1 : Int) ≤ wk) && decide (wk ≤ 64)) = true := by simp; omega
      have hr1 : (decide ((1 : Int) ≤ cp) && decide (cp ≤ 1024)) = false := by simp; omega
      have HRES : Hid (sizedB ⟨wk, cp, bd, ws, qs, P, tk, fd, sm⟩ = false) := Lib.hid (by unfold sizedB; dsimp only; rw [hr0, hr1]; simp)
      have HR0 := Lib.hid hr0
      have HR1 := Lib.hid hr1
      clear g0 g1 hr0 hr1
      go_enter Try.func26, Try.ntmps26
      go_upto_region 1 with fail
      rw [HV.out]
      clear HV
      obtain ⟨x0, x1, x2, x3, x4, x5, x6, x7, x8⟩ := KX.out.c9e
      have lX := KX.out.lt
      go_wp2_with fail
      refine (within_en wk 1 64 _).mono ?_
      rw [HR0.out]
      rintro e u0 ⟨rfl, hw⟩
      subst hw
      go_wp2_with fail
      refine (within_en cp 1 1024 _).mono ?_
      rw [HR1.out]
      rintro e u1 ⟨rfl, hw⟩
      subst hw
      go_wp2_with fail
      go_ret
      exact ⟨by rw [HRES.out]; rfl, BB.out⟩
  · have hr0 : (decide ((1 : Int) ≤ wk) && decide (wk ≤ 64)) = false := by simp; omega
    have HRES : Hid (sizedB ⟨wk, cp, bd, ws, qs, P, tk, fd, sm⟩ = false) := Lib.hid (by unfold sizedB; dsimp only; rw [hr0]; simp)
    have HR0 := Lib.hid hr0
    clear g0 hr0
    go_enter Try.func26, Try.ntmps26
    go_upto_region 1 with fail
    rw [HV.out]
    clear HV
    obtain ⟨x0, x1, x2, x3, x4, x5, x6, x7, x8⟩ := KX.out.c9e
    have lX := KX.out.lt
    go_wp2_with fail
    refine (within_en wk 1 64 _).mono ?_
    rw [HR0.out]
    rintro e u0 ⟨rfl, hw⟩
    subst hw
    go_wp2_with fail
    go_ret
    exact ⟨by rw [HRES.out]; rfl, BB.out⟩

set_option maxRecDepth 100000 in
set_option maxHeartbeats 4000000 in
theorem supplied_en (x : Cf) (a : CfA) (w : World) (hx : CfR w x a) :
    Calls Try.prog 28 #[.agg (cfc x a)] w (RetB (.bool (supB x)) w) := by
  obtain ⟨wk, cp, bd, ws, qs, P, tk, fd, sm⟩ := x
  obtain ⟨A, n, c, B, m, d, F, q, e, G, r, h⟩ := a
  have HX := Lib.hid hx
  have LS := hx.sm.1
  have LP := hx.P.1
  dsimp only at LS LP
  have HLS := Lib.hid LS
  have HLP := Lib.hid LP
  clear hx LS LP
  dsimp only [cfc]
  obtain ⟨kb0, hb0⟩ := lay1 w #[.int .i64 wk, .int .i64 cp, .int .i64 bd, .slice A n c, .slice B m d, .slice F q e, .int .i64 tk, .int .i64 fd, .slice G r h] 25
  obtain ⟨V, hV⟩ : ∃ V, w.alloc (.cells #[.int .i64 wk, .int .i64 cp, .int .i64 bd, .slice A n c, .slice B m d, .slice F q e, .int .i64 tk, .int .i64 fd, .slice G r h] 25) = V := ⟨_, rfl⟩
  rw [hV] at kb0 hb0
  have HV := Lib.hid hV
  have BB := Lib.hid hb0
  have KX := Lib.hid kb0
  clear hV hb0 kb0
  have HRES : Hid (supB ⟨wk, cp, bd, ws, qs, P, tk, fd, sm⟩ = !anyQ q (rowB fd r P)) := Lib.hid (by unfold supB; dsimp only; rw [HLS.out, HLP.out])
  obtain ⟨gb, hgb⟩ : ∃ g, w.heap.size = g := ⟨_, rfl⟩
  have HGB := Lib.hid hgb
  rw [hgb] at KX
  clear hgb
  have k3 := Bk.new V 71 #[.func (.func 49) #[] #[.pointer (some ⟨gb, 0, none⟩)]]
  have b3 := (Below.refl V.heap.size V).alloc (Nat.le_refl _) (.cells #[.func (.func 49) #[] #[.pointer (some ⟨gb, 0, none⟩)]] 71)
  obtain ⟨V3, hV3⟩ : ∃ V3, V.alloc (.cells #[.func (.func 49) #[] #[.pointer (some ⟨gb, 0, none⟩)]] 71) = V3 := ⟨_, rfl⟩
  rw [hV3] at k3 b3
  have HV3 := Lib.hid hV3
  have K3 := Lib.hid k3
  have KX3 := Lib.hid (KX.out.below b3 KX.out.lt)
  have B3 := Lib.hid (below3 BB.out b3)
  have HC := Lib.hid (any_prgs F q e P fd G gb r h V.heap.size V3 (HX.out.below B3.out).P KX3.out.c9e.2.2.2.2.2.2.2.1 KX3.out.c9e.2.2.2.2.2.2.2.2 KX3.out.lt K3.out.one K3.out.lt)
  obtain ⟨v, hv⟩ : ∃ v, anyQ q (rowB fd r P) = v := ⟨_, rfl⟩
  rw [hv] at HC HRES
  clear hv k3 b3 hV3 KX BB
  go_enter Try.func28, Try.ntmps28
  go_upto_region 1 with fail
  rw [HV.out, HGB.out]
  clear HV
  go_upto_region 2 with fail
  rw [HV3.out]
  clear HV3
  obtain ⟨x0, x1, x2, x3, x4, x5, x6, x7, x8⟩ := KX3.out.c9e
  have lX := KX3.out.lt
  go_wp2_with fail
  refine HC.out.mono ?_
  rintro e2 U ⟨rfl, bU⟩
  have BU := Lib.hid (below3 B3.out bU)
  clear bU x0 x1 x2 x3 x4 x5 x6 x7 x8 lX HC
  go_wp2_with fail
  go_ret
  exact ⟨by rw [HRES.out]; rfl, BU.out⟩

set_option maxRecDepth 100000 in
set_option maxHeartbeats 4000000 in
theorem filled_en (x : Cf) (a : CfA) (w : World) (hx : CfR w x a) :
    Calls Try.prog 27 #[.agg (cfc x a)] w (RetB (.bool (filB x)) w) := by
  obtain ⟨wk, cp, bd, ws, qs, P, tk, fd, sm⟩ := x
  obtain ⟨A, n, c, B, m, d, F, q, e, G, r, h⟩ := a
  have HX := Lib.hid hx
  have LS := hx.sm.1
  have LP := hx.P.1
  dsimp only at LS LP
  have HLS := Lib.hid LS
  have HLP := Lib.hid LP
  clear hx LS LP
  dsimp only [cfc]
  obtain ⟨kb0, hb0⟩ := lay1 w #[.int .i64 wk, .int .i64 cp, .int .i64 bd, .slice A n c, .slice B m d, .slice F q e, .int .i64 tk, .int .i64 fd, .slice G r h] 25
  obtain ⟨V, hV⟩ : ∃ V, w.alloc (.cells #[.int .i64 wk, .int .i64 cp, .int .i64 bd, .slice A n c, .slice B m d, .slice F q e, .int .i64 tk, .int .i64 fd, .slice G r h] 25) = V := ⟨_, rfl⟩
  rw [hV] at kb0 hb0
  have HV := Lib.hid hV
  have BB := Lib.hid hb0
  have KX := Lib.hid kb0
  clear hV hb0 kb0
  obtain ⟨⟨er, tl⟩, her⟩ : ∃ r, newLn ws qs = r := ⟨_, rfl⟩
  have HE := Lib.hid her
  by_cases hne : er = 0
  · subst hne
    by_cases hel : errL P = 0
    · by_cases g6 : r ≤ 8
      · have HRES : Hid (filB ⟨wk, cp, bd, ws, qs, P, tk, fd, sm⟩ = !anyQ r (badS sm)) := Lib.hid (by unfold filB; dsimp only; rw [her, HLS.out, decide_eq_true g6, decide_eq_true hel]; rfl)
        have HEL := Lib.hid hel
        have t6 : decide ((r : Int) ≤ 8) = true := decide_eq_true (by omega)
        have t6n : decide (r ≤ 8) = true := decide_eq_true (by omega)
        obtain ⟨v, hv⟩ : ∃ v, anyQ r (badS sm) = v := ⟨_, rfl⟩
        rw [hv] at HRES
        have HQV := Lib.hid hv
        clear hel her g6 hv
        go_enter Try.func27, Try.ntmps27
        go_upto_region 1 with fail
        rw [HV.out]
        clear HV
        obtain ⟨x0, x1, x2, x3, x4, x5, x6, x7, x8⟩ := KX.out.c9e
        have lX := KX.out.lt
        go_wp2_with fail
        refine (pnew_tn A B n c m d ws qs _ (HX.out.below BB.out).ws (HX.out.below BB.out).qs).mono ?_
        unfold ListTn
        rw [HE.out]
        rintro e2 UN ⟨A9, c9, rfl, -, bN⟩
        clear x0 x1 x2 x3 x4 x5 x6 x7 x8 lX
        replace BB := Lib.hid (below3 BB.out bN)
        replace KX := Lib.hid (KX.out.below bN KX.out.lt)
        clear bN
        obtain ⟨x0, x1, x2, x3, x4, x5, x6, x7, x8⟩ := KX.out.c9e
        have lX := KX.out.lt
        go_wp2_with fail
        refine (checkAll_any F q e P _ (HX.out.below BB.out).P).mono ?_
        rw [HEL.out]
        rintro e2 UC ⟨rfl, bC⟩
        clear x0 x1 x2 x3 x4 x5 x6 x7 x8 lX
        replace BB := Lib.hid (below3 BB.out bC)
        replace KX := Lib.hid (KX.out.below bC KX.out.lt)
        clear bC
        obtain ⟨x0, x1, x2, x3, x4, x5, x6, x7, x8⟩ := KX.out.c9e
        have lX := KX.out.lt
        go_wp2_with fail
        refine (any_sems G r h sm _ (HX.out.below BB.out).sm).mono ?_
        rw [HQV.out]
        rintro e2 US ⟨rfl, bS⟩
        clear x0 x1 x2 x3 x4 x5 x6 x7 x8 lX
        replace BB := Lib.hid (below3 BB.out bS)
        replace KX := Lib.hid (KX.out.below bS KX.out.lt)
        clear bS
        obtain ⟨x0, x1, x2, x3, x4, x5, x6, x7, x8⟩ := KX.out.c9e
        have lX := KX.out.lt
        go_wp2_with fail
        go_ret
        exact ⟨by rw [HRES.out]; rfl, BB.out⟩
      · have HRES : Hid (filB ⟨wk, cp, bd, ws, qs, P, tk, fd, sm⟩ = false) := Lib.hid (by unfold filB; dsimp only; rw [HLS.out, decide_eq_false g6]; simp)
        have HEL := Lib.hid hel
        have t6 : decide ((r : Int) ≤ 8) = false := decide_eq_false (by omega)
        have t6n : decide (r ≤ 8) = false := decide_eq_false (by omega)
        clear hel her g6
        go_enter Try.func27, Try.ntmps27
        go_upto_region 1 with fail
        rw [HV.out]
        clear HV
        obtain ⟨x0, x1, x2, x3, x4, x5, x6, x7, x8⟩ := KX.out.c9e
        have lX := KX.out.lt
        go_wp2_with fail
        refine (pnew_tn A B n c m d ws qs _ (HX.out.below BB.out).ws (HX.out.below BB.out).qs).mono ?_
        unfold ListTn
        rw [HE.out]
        rintro e2 UN ⟨A9, c9, rfl, -, bN⟩
        clear x0 x1 x2 x3 x4 x5 x6 x7 x8 lX
        replace BB := Lib.hid (below3 BB.out bN)
        replace KX := Lib.hid (KX.out.below bN KX.out.lt)
        clear bN
        obtain ⟨x0, x1, x2, x3, x4, x5, x6, x7, x8⟩ := KX.out.c9e
        have lX := KX.out.lt
        go_wp2_with fail
        refine (checkAll_any F q e P _ (HX.out.below BB.out).P).mono ?_
        rw [HEL.out]
        rintro e2 UC ⟨rfl, bC⟩
        clear x0 x1 x2 x3 x4 x5 x6 x7 x8 lX
        replace BB := Lib.hid (below3 BB.out bC)
        replace KX := Lib.hid (KX.out.below bC KX.out.lt)
        clear bC
        obtain ⟨x0, x1, x2, x3, x4, x5, x6, x7, x8⟩ := KX.out.c9e
        have lX := KX.out.lt
        go_wp2_with fail
        go_ret
        exact ⟨by rw [HRES.out]; rfl, BB.out⟩
    · have HRES : Hid (filB ⟨wk, cp, bd, ws, qs, P, tk, fd, sm⟩ = false) := Lib.hid (by unfold filB; dsimp only; rw [her]; simp [hel])
      have HEL : Hid (∃ z, errL P = z ∧ (z == 0) = false) := Lib.hid ⟨_, rfl, by simpa using hel⟩
      clear hel her
      obtain ⟨z, hz, tz⟩ := HEL.out
      have HZ := Lib.hid hz
      clear hz
      go_enter Try.func27, Try.ntmps27
      go_upto_region 1 with fail
      rw [HV.out]
      clear HV
      obtain ⟨x0, x1, x2, x3, x4, x5, x6, x7, x8⟩ := KX.out.c9e
      have lX := KX.out.lt
      go_wp2_with fail
      refine (pnew_tn A B n c m d ws qs _ (HX.out.below BB.out).ws (HX.out.below BB.out).qs).mono ?_
      unfold ListTn
      rw [HE.out]
      rintro e2 UN ⟨A9, c9, rfl, -, bN⟩
      clear x0 x1 x2 x3 x4 x5 x6 x7 x8 lX
      replace BB := Lib.hid (below3 BB.out bN)
      replace KX := Lib.hid (KX.out.below bN KX.out.lt)
      clear bN
      obtain ⟨x0, x1, x2, x3, x4, x5, x6, x7, x8⟩ := KX.out.c9e
      have lX := KX.out.lt
      go_wp2_with fail
      refine (checkAll_any F q e P _ (HX.out.below BB.out).P).mono ?_
      rw [HZ.out]
      rintro e2 UC ⟨rfl, bC⟩
      clear x0 x1 x2 x3 x4 x5 x6 x7 x8 lX
      replace BB := Lib.hid (below3 BB.out bC)
      replace KX := Lib.hid (KX.out.below bC KX.out.lt)
      clear bC
      obtain ⟨x0, x1, x2, x3, x4, x5, x6, x7, x8⟩ := KX.out.c9e
      have lX := KX.out.lt
      go_wp2_with fail
      go_ret
      exact ⟨by rw [HRES.out]; rfl, BB.out⟩
  · have HRES : Hid (filB ⟨wk, cp, bd, ws, qs, P, tk, fd, sm⟩ = false) := Lib.hid (by unfold filB; dsimp only; rw [her]; simp [hne])
    have t0 : (er != 0) = true := by simpa using hne
    clear hne her
    go_enter Try.func27, Try.ntmps27
    go_upto_region 1 with fail
    rw [HV.out]
    clear HV
    obtain ⟨x0, x1, x2, x3, x4, x5, x6, x7, x8⟩ := KX.out.c9e
    have lX := KX.out.lt
    go_wp2_with fail
    refine (pnew_tn A B n c m d ws qs _ (HX.out.below BB.out).ws (HX.out.below BB.out).qs).mono ?_
    unfold ListTn
    rw [HE.out]
    rintro e2 UN ⟨A9, c9, rfl, -, bN⟩
    clear x0 x1 x2 x3 x4 x5 x6 x7 x8 lX
    replace BB := Lib.hid (below3 BB.out bN)
    replace KX := Lib.hid (KX.out.below bN KX.out.lt)
    clear bN
    obtain ⟨x0, x1, x2, x3, x4, x5, x6, x7, x8⟩ := KX.out.c9e
    have lX := KX.out.lt
    go_wp2_with fail
    go_ret
    exact ⟨by rw [HRES.out]; rfl, BB.out⟩

set_option maxRecDepth 100000 in
set_option maxHeartbeats 8000000 in
theorem config_en (x : Cf) (a : CfA) (w : World) (hx : CfR w x a) (_ : x.ws.length ≤ 1000) :
    Calls Try.prog 10 #[.agg (cfc x a)] w (RetB (.int .i64 (cfgR x)) w) := by
  obtain ⟨wk, cp, bd, ws, qs, P, tk, fd, sm⟩ := x
  obtain ⟨A, n, c, B, m, d, F, q, e, G, r, h⟩ := a
  have HX := Lib.hid hx
  have LS := hx.sm.1
  have LP := hx.P.1
  dsimp only at LS LP
  have HLS := Lib.hid LS
  have HLP := Lib.hid LP
  clear hx LS LP
  dsimp only [cfc]
  obtain ⟨kb0, hb0⟩ := lay1 w #[.int .i64 wk, .int .i64 cp, .int .i64 bd, .slice A n c, .slice B m d, .slice F q e, .int .i64 tk, .int .i64 fd, .slice G r h] 25
  obtain ⟨V, hV⟩ : ∃ V, w.alloc (.cells #[.int .i64 wk, .int .i64 cp, .int .i64 bd, .slice A n c, .slice B m d, .slice F q e, .int .i64 tk, .int .i64 fd, .slice G r h] 25) = V := ⟨_, rfl⟩
  rw [hV] at kb0 hb0
  have HV := Lib.hid hV
  have BB := Lib.hid hb0
  have KX := Lib.hid kb0
  clear hV hb0 kb0
  have HOK := Lib.hid (okC_iff (x := ⟨wk, cp, bd, ws, qs, P, tk, fd, sm⟩))
  obtain ⟨v0, h0⟩ : ∃ v, sizedB ⟨wk, cp, bd, ws, qs, P, tk, fd, sm⟩ = v := ⟨_, rfl⟩
  obtain ⟨v1, h1⟩ : ∃ v, filB ⟨wk, cp, bd, ws, qs, P, tk, fd, sm⟩ = v := ⟨_, rfl⟩
  obtain ⟨v2, h2⟩ : ∃ v, supB ⟨wk, cp, bd, ws, qs, P, tk, fd, sm⟩ = v := ⟨_, rfl⟩
  rw [h0, h1, h2] at HOK
  have H0 := Lib.hid h0
  have H1 := Lib.hid h1
  have H2 := Lib.hid h2
  clear h0 h1 h2
  cases v0
  · have HRES : Hid (cfgR ⟨wk, cp, bd, ws, qs, P, tk, fd, sm⟩ = 1) := Lib.hid (cfgR_no (fun q => by have := HOK.out.1 q; simp at this))
    go_enter Try.func10, Try.ntmps10
    go_upto_region 1 with fail
    rw [HV.out]
    clear HV
    obtain ⟨x0, x1, x2, x3, x4, x5, x6, x7, x8⟩ := KX.out.c9e
    have lX := KX.out.lt
    go_wp2_with fail
    refine (sized_en ⟨wk, cp, bd, ws, qs, P, tk, fd, sm⟩ ⟨A, n, c, B, m, d, F, q, e, G, r, h⟩ _).mono ?_
    rw [H0.out]
    rintro e2 U0 ⟨rfl, b0⟩
    clear x0 x1 x2 x3 x4 x5 x6 x7 x8 lX
    replace BB := Lib.hid (below3 BB.out b0)
    replace KX := Lib.hid (KX.out.below b0 KX.out.lt)
    clear b0
    obtain ⟨x0, x1, x2, x3, x4, x5, x6, x7, x8⟩ := KX.out.c9e
    have lX := KX.out.lt
    go_wp2_with fail
    go_ret
    exact ⟨by rw [HRES.out]; rfl, BB.out⟩
  · cases v1
    · have HRES : Hid (cfgR ⟨wk, cp, bd, ws, qs, P, tk, fd, sm⟩ = 1) := Lib.hid (cfgR_no (fun q => by have := HOK.out.1 q; simp at this))
      go_enter Try.func10, Try.ntmps10
      go_upto_region 1 with fail
      rw [HV.out]
      clear HV
      obtain ⟨x0, x1, x2, x3, x4, x5, x6, x7, x8⟩ := KX.out.c9e
      have lX := KX.out.lt
      go_wp2_with fail
      refine (sized_en ⟨wk, cp, bd, ws, qs, P, tk, fd, sm⟩ ⟨A, n, c, B, m, d, F, q, e, G, r, h⟩ _).mono ?_
      rw [H0.out]
      rintro e2 U0 ⟨rfl, b0⟩
      clear x0 x1 x2 x3 x4 x5 x6 x7 x8 lX
      replace BB := Lib.hid (below3 BB.out b0)
      replace KX := Lib.hid (KX.out.below b0 KX.out.lt)
      clear b0
      obtain ⟨x0, x1, x2, x3, x4, x5, x6, x7, x8⟩ := KX.out.c9e
      have lX := KX.out.lt
      go_wp2_with fail
      refine (filled_en ⟨wk, cp, bd, ws, qs, P, tk, fd, sm⟩ ⟨A, n, c, B, m, d, F, q, e, G, r, h⟩ _ (HX.out.below BB.out)).mono ?_
      rw [H1.out]
      rintro e2 U1 ⟨rfl, b1⟩
      clear x0 x1 x2 x3 x4 x5 x6 x7 x8 lX
      replace BB := Lib.hid (below3 BB.out b1)
      replace KX := Lib.hid (KX.out.below b1 KX.out.lt)
      clear b1
      obtain ⟨x0, x1, x2, x3, x4, x5, x6, x7, x8⟩ := KX.out.c9e
      have lX := KX.out.lt
      go_wp2_with fail
      go_ret
      exact ⟨by rw [HRES.out]; rfl, BB.out⟩
    · cases v2
      · have HRES : Hid (cfgR ⟨wk, cp, bd, ws, qs, P, tk, fd, sm⟩ = 1) := Lib.hid (cfgR_no (fun q => by have := HOK.out.1 q; simp at this))
        go_enter Try.func10, Try.ntmps10
        go_upto_region 1 with fail
        rw [HV.out]
        clear HV
        obtain ⟨x0, x1, x2, x3, x4, x5, x6, x7, x8⟩ := KX.out.c9e
        have lX := KX.out.lt
        go_wp2_with fail
        refine (sized_en ⟨wk, cp, bd, ws, qs, P, tk, fd, sm⟩ ⟨A, n, c, B, m, d, F, q, e, G, r, h⟩ _).mono ?_
        rw [H0.out]
        rintro e2 U0 ⟨rfl, b0⟩
        clear x0 x1 x2 x3 x4 x5 x6 x7 x8 lX
        replace BB := Lib.hid (below3 BB.out b0)
        replace KX := Lib.hid (KX.out.below b0 KX.out.lt)
        clear b0
        obtain ⟨x0, x1, x2, x3, x4, x5, x6, x7, x8⟩ := KX.out.c9e
        have lX := KX.out.lt
        go_wp2_with fail
        refine (filled_en ⟨wk, cp, bd, ws, qs, P, tk, fd, sm⟩ ⟨A, n, c, B, m, d, F, q, e, G, r, h⟩ _ (HX.out.below BB.out)).mono ?_
        rw [H1.out]
        rintro e2 U1 ⟨rfl, b1⟩
        clear x0 x1 x2 x3 x4 x5 x6 x7 x8 lX
        replace BB := Lib.hid (below3 BB.out b1)
        replace KX := Lib.hid (KX.out.below b1 KX.out.lt)
        clear b1
        obtain ⟨x0, x1, x2, x3, x4, x5, x6, x7, x8⟩ := KX.out.c9e
        have lX := KX.out.lt
        go_wp2_with fail
        refine (supplied_en ⟨wk, cp, bd, ws, qs, P, tk, fd, sm⟩ ⟨A, n, c, B, m, d, F, q, e, G, r, h⟩ _ (HX.out.below BB.out)).mono ?_
        rw [H2.out]
        rintro e2 U2 ⟨rfl, b2⟩
        clear x0 x1 x2 x3 x4 x5 x6 x7 x8 lX
        replace BB := Lib.hid (below3 BB.out b2)
        replace KX := Lib.hid (KX.out.below b2 KX.out.lt)
        clear b2
        obtain ⟨x0, x1, x2, x3, x4, x5, x6, x7, x8⟩ := KX.out.c9e
        have lX := KX.out.lt
        go_wp2_with fail
        go_ret
        exact ⟨by rw [HRES.out]; rfl, BB.out⟩
      · have HRES : Hid (cfgR ⟨wk, cp, bd, ws, qs, P, tk, fd, sm⟩ = 0) := Lib.hid (cfgR_ok (HOK.out.2 ⟨rfl, rfl, rfl⟩))
        go_enter Try.func10, Try.ntmps10
        go_upto_region 1 with fail
        rw [HV.out]
        clear HV
        obtain ⟨x0, x1, x2, x3, x4, x5, x6, x7, x8⟩ := KX.out.c9e
        have lX := KX.out.lt
        go_wp2_with fail
        refine (sized_en ⟨wk, cp, bd, ws, qs, P, tk, fd, sm⟩ ⟨A, n, c, B, m, d, F, q, e, G, r, h⟩ _).mono ?_
        rw [H0.out]
        rintro e2 U0 ⟨rfl, b0⟩
        clear x0 x1 x2 x3 x4 x5 x6 x7 x8 lX
        replace BB := Lib.hid (below3 BB.out b0)
        replace KX := Lib.hid (KX.out.below b0 KX.out.lt)
        clear b0
        obtain ⟨x0, x1, x2, x3, x4, x5, x6, x7, x8⟩ := KX.out.c9e
        have lX := KX.out.lt
        go_wp2_with fail
        refine (filled_en ⟨wk, cp, bd, ws, qs, P, tk, fd, sm⟩ ⟨A, n, c, B, m, d, F, q, e, G, r, h⟩ _ (HX.out.below BB.out)).mono ?_
        rw [H1.out]
        rintro e2 U1 ⟨rfl, b1⟩
        clear x0 x1 x2 x3 x4 x5 x6 x7 x8 lX
        replace BB := Lib.hid (below3 BB.out b1)
        replace KX := Lib.hid (KX.out.below b1 KX.out.lt)
        clear b1
        obtain ⟨x0, x1, x2, x3, x4, x5, x6, x7, x8⟩ := KX.out.c9e
        have lX := KX.out.lt
        go_wp2_with fail
        refine (supplied_en ⟨wk, cp, bd, ws, qs, P, tk, fd, sm⟩ ⟨A, n, c, B, m, d, F, q, e, G, r, h⟩ _ (HX.out.below BB.out)).mono ?_
        rw [H2.out]
        rintro e2 U2 ⟨rfl, b2⟩
        clear x0 x1 x2 x3 x4 x5 x6 x7 x8 lX
        replace BB := Lib.hid (below3 BB.out b2)
        replace KX := Lib.hid (KX.out.below b2 KX.out.lt)
        clear b2
        obtain ⟨x0, x1, x2, x3, x4, x5, x6, x7, x8⟩ := KX.out.c9e
        have lX := KX.out.lt
        go_wp2_with fail
        go_ret
        exact ⟨by rw [HRES.out]; rfl, BB.out⟩

set_option maxRecDepth 100000 in
set_option maxHeartbeats 16000000 in
theorem sameCf_en (x y : Cf) (a b : CfA) (w : World) (hx : CfR w x a) (hy : CfR w y b) :
    Calls Try.prog 12 #[.agg (cfc x a), .agg (cfc y b)] w (RetB (.bool (sameCf x y)) w) := by
  obtain ⟨wk, cp, bd, ws, qs, P, tk, fd, sm⟩ := x
  obtain ⟨wky, cpy, bdy, wsy, qsy, Py, tky, fdy, smy⟩ := y
  obtain ⟨A, n, c, B, m, d, F, q, e, G, r, h⟩ := a
  obtain ⟨Ay, ny, cy, By, my, dy, Fy, qy, ey, Gy, ry, hy⟩ := b
  have HX := Lib.hid hx
  have HY := Lib.hid hy
  clear hx hy
  dsimp only [cfc]
  obtain ⟨kb0, kb1, hb0⟩ := lies2 w #[.int .i64 wk, .int .i64 cp, .int .i64 bd, .slice A n c, .slice B m d, .slice F q e, .int .i64 tk, .int .i64 fd, .slice G r h] #[.int .i64 wky, .int .i64 cpy, .int .i64 bdy, .slice Ay ny cy, .slice By my dy, .slice Fy qy ey, .int .i64 tky, .int .i64 fdy, .slice Gy ry hy] 25 25
  obtain ⟨V, hV⟩ : ∃ V, (w.alloc (.cells #[.int .i64 wk, .int .i64 cp, .int .i64 bd, .slice A n c, .slice B m d, .slice F q e, .int .i64 tk, .int .i64 fd, .slice G r h] 25)).alloc (.cells #[.int .i64 wky, .int .i64 cpy, .int .i64 bdy, .slice Ay ny cy, .slice By my dy, .slice Fy qy ey, .int .i64 tky, .int .i64 fdy, .slice Gy ry hy] 25) = V := ⟨_, rfl⟩
  rw [hV] at kb0 kb1 hb0
  have HV := Lib.hid hV
  have BB := Lib.hid hb0
  have KX := Lib.hid kb0
  have KY := Lib.hid kb1
  clear hV hb0 kb0 kb1
  by_cases h0 : wk = wky
  · by_cases h1 : cp = cpy
    · by_cases h2 : bd = bdy
      · by_cases h3 : tk = tky
        · by_cases h4 : fd = fdy
          · cases h5 : sameB ws wsy
            · have t0 : (wk == wky) = true := by simpa using h0
              have t1 : (cp == cpy) = true := by simpa using h1
              have t2 : (bd == bdy) = true := by simpa using h2
              have t3 : (tk == tky) = true := by simpa using h3
              have t4 : (fd == fdy) = true := by simpa using h4
              have HB5 := Lib.hid h5
              have HRES : Hid (sameCf ⟨wk, cp, bd, ws, qs, P, tk, fd, sm⟩ ⟨wky, cpy, bdy, wsy, qsy, Py, tky, fdy, smy⟩ = false) := Lib.hid (by unfold sameCf; dsimp only; simp [t0, t1, t2, t3, t4, h5])
              clear h0 h1 h2 h3 h4 h5
              go_enter Try.func12, Try.ntmps12
              go_upto_region 1 with fail
              rw [HV.out]
              clear HV
              obtain ⟨x0, x1, x2, x3, x4, x5, x6, x7, x8⟩ := KX.out.c9e
              have lX := KX.out.lt
              obtain ⟨y0, y1, y2, y3, y4, y5, y6, y7, y8⟩ := KY.out.c9e
              have lY := KY.out.lt
              go_wp2_with fail
              refine (equalI_en A Ay n c ny cy ws wsy _ (HX.out.below BB.out).ws (HY.out.below BB.out).ws).mono ?_
              rw [HB5.out]
              rintro e2 U5 ⟨rfl, b5⟩
              clear x0 x1 x2 x3 x4 x5 x6 x7 x8 lX y0 y1 y2 y3 y4 y5 y6 y7 y8 lY
              replace BB := Lib.hid (below3 BB.out b5)
              replace KX := Lib.hid (KX.out.below b5 KX.out.lt)
              replace KY := Lib.hid (KY.out.below b5 KY.out.lt)
              clear b5
              obtain ⟨x0, x1, x2, x3, x4, x5, x6, x7, x8⟩ := KX.out.c9e
              have lX := KX.out.lt
              obtain ⟨y0, y1, y2, y3, y4, y5, y6, y7, y8⟩ := KY.out.c9e
              have lY := KY.out.lt
              go_wp2_with fail
              go_ret
              exact ⟨by rw [HRES.out]; rfl, BB.out⟩
            · cases h6 : sameB qs qsy
              · have t0 : (wk == wky) = true := by simpa using h0
                have t1 : (cp == cpy) = true := by simpa using h1
                have t2 : (bd == bdy) = true := by simpa using h2
                have t3 : (tk == tky) = true := by simpa using h3
                have t4 : (fd == fdy) = true := by simpa using h4
                have HB5 := Lib.hid h5
                have HB6 := Lib.hid h6
                have HRES : Hid (sameCf ⟨wk, cp, bd, ws, qs, P, tk, fd, sm⟩ ⟨wky, cpy, bdy, wsy, qsy, Py, tky, fdy, smy⟩ = false) := Lib.hid (by unfold sameCf; dsimp only; simp [t0, t1, t2, t3, t4, h5, h6])
                clear h0 h1 h2 h3 h4 h5 h6
                go_enter Try.func12, Try.ntmps12
                go_upto_region 1 with fail
                rw [HV.out]
                clear HV
                obtain ⟨x0, x1, x2, x3, x4, x5, x6, x7, x8⟩ := KX.out.c9e
                have lX := KX.out.lt
                obtain ⟨y0, y1, y2, y3, y4, y5, y6, y7, y8⟩ := KY.out.c9e
                have lY := KY.out.lt
                go_wp2_with fail
                refine (equalI_en A Ay n c ny cy ws wsy _ (HX.out.below BB.out).ws (HY.out.below BB.out).ws).mono ?_
                rw [HB5.out]
                rintro e2 U5 ⟨rfl, b5⟩
                clear x0 x1 x2 x3 x4 x5 x6 x7 x8 lX y0 y1 y2 y3 y4 y5 y6 y7 y8 lY
                replace BB := Lib.hid (below3 BB.out b5)
                replace KX := Lib.hid (KX.out.below b5 KX.out.lt)
                replace KY := Lib.hid (KY.out.below b5 KY.out.lt)
                clear b5
                obtain ⟨x0, x1, x2, x3, x4, x5, x6, x7, x8⟩ := KX.out.c9e
                have lX := KX.out.lt
                obtain ⟨y0, y1, y2, y3, y4, y5, y6, y7, y8⟩ := KY.out.c9e
                have lY := KY.out.lt
                go_wp2_with fail
                refine (equalI_en B By m d my dy qs qsy _ (HX.out.below BB.out).qs (HY.out.below BB.out).qs).mono ?_
                rw [HB6.out]
                rintro e2 U6 ⟨rfl, b6⟩
                clear x0 x1 x2 x3 x4 x5 x6 x7 x8 lX y0 y1 y2 y3 y4 y5 y6 y7 y8 lY
                replace BB := Lib.hid (below3 BB.out b6)
                replace KX := Lib.hid (KX.out.below b6 KX.out.lt)
                replace KY := Lib.hid (KY.out.below b6 KY.out.lt)
                clear b6
                obtain ⟨x0, x1, x2, x3, x4, x5, x6, x7, x8⟩ := KX.out.c9e
                have lX := KX.out.lt
                obtain ⟨y0, y1, y2, y3, y4, y5, y6, y7, y8⟩ := KY.out.c9e
                have lY := KY.out.lt
                go_wp2_with fail
                go_ret
                exact ⟨by rw [HRES.out]; rfl, BB.out⟩
              · cases h7 : sameB sm smy
                · have t0 : (wk == wky) = true := by simpa using h0
                  have t1 : (cp == cpy) = true := by simpa using h1
                  have t2 : (bd == bdy) = true := by simpa using h2
                  have t3 : (tk == tky) = true := by simpa using h3
                  have t4 : (fd == fdy) = true := by simpa using h4
                  have HB5 := Lib.hid h5
                  have HB6 := Lib.hid h6
                  have HB7 := Lib.hid h7
                  have HRES : Hid (sameCf ⟨wk, cp, bd, ws, qs, P, tk, fd, sm⟩ ⟨wky, cpy, bdy, wsy, qsy, Py, tky, fdy, smy⟩ = false) := Lib.hid (by unfold sameCf; dsimp only; simp [t0, t1, t2, t3, t4, h5, h6, h7])
                  clear h0 h1 h2 h3 h4 h5 h6 h7
                  go_enter Try.func12, Try.ntmps12
                  go_upto_region 1 with fail
                  rw [HV.out]
                  clear HV
                  obtain ⟨x0, x1, x2, x3, x4, x5, x6, x7, x8⟩ := KX.out.c9e
                  have lX := KX.out.lt
                  obtain ⟨y0, y1, y2, y3, y4, y5, y6, y7, y8⟩ := KY.out.c9e
                  have lY := KY.out.lt
                  go_wp2_with fail
                  refine (equalI_en A Ay n c ny cy ws wsy _ (HX.out.below BB.out).ws (HY.out.below BB.out).ws).mono ?_
                  rw [HB5.out]
                  rintro e2 U5 ⟨rfl, b5⟩
                  clear x0 x1 x2 x3 x4 x5 x6 x7 x8 lX y0 y1 y2 y3 y4 y5 y6 y7 y8 lY
                  replace BB := Lib.hid (below3 BB.out b5)
                  replace KX := Lib.hid (KX.out.below b5 KX.out.lt)
                  replace KY := Lib.hid (KY.out.below b5 KY.out.lt)
                  clear b5
                  obtain ⟨x0, x1, x2, x3, x4, x5, x6, x7, x8⟩ := KX.out.c9e
                  have lX := KX.out.lt
                  obtain ⟨y0, y1, y2, y3, y4, y5, y6, y7, y8⟩ := KY.out.c9e
                  have lY := KY.out.lt
                  go_wp2_with fail
                  refine (equalI_en B By m d my dy qs qsy _ (HX.out.below BB.out).qs (HY.out.below BB.out).qs).mono ?_
                  rw [HB6.out]
                  rintro e2 U6 ⟨rfl, b6⟩
                  clear x0 x1 x2 x3 x4 x5 x6 x7 x8 lX y0 y1 y2 y3 y4 y5 y6 y7 y8 lY
                  replace BB := Lib.hid (below3 BB.out b6)
                  replace KX := Lib.hid (KX.out.below b6 KX.out.lt)
                  replace KY := Lib.hid (KY.out.below b6 KY.out.lt)
                  clear b6
                  obtain ⟨x0, x1, x2, x3, x4, x5, x6, x7, x8⟩ := KX.out.c9e
                  have lX := KX.out.lt
                  obtain ⟨y0, y1, y2, y3, y4, y5, y6, y7, y8⟩ := KY.out.c9e
                  have lY := KY.out.lt
                  go_wp2_with fail
                  refine (equalI_en G Gy r h ry hy sm smy _ (HX.out.below BB.out).sm (HY.out.below BB.out).sm).mono ?_
                  rw [HB7.out]
                  rintro e2 U7 ⟨rfl, b7⟩
                  clear x0 x1 x2 x3 x4 x5 x6 x7 x8 lX y0 y1 y2 y3 y4 y5 y6 y7 y8 lY
                  replace BB := Lib.hid (below3 BB.out b7)
                  replace KX := Lib.hid (KX.out.below b7 KX.out.lt)
                  replace KY := Lib.hid (KY.out.below b7 KY.out.lt)
                  clear b7
                  obtain ⟨x0, x1, x2, x3, x4, x5, x6, x7, x8⟩ := KX.out.c9e
                  have lX := KX.out.lt
                  obtain ⟨y0, y1, y2, y3, y4, y5, y6, y7, y8⟩ := KY.out.c9e
                  have lY := KY.out.lt
                  go_wp2_with fail
                  go_ret
                  exact ⟨by rw [HRES.out]; rfl, BB.out⟩
                · cases h8 : sameL P Py
                  · have t0 : (wk == wky) = true := by simpa using h0
                    have t1 : (cp == cpy) = true := by simpa using h1
                    have t2 : (bd == bdy) = true := by simpa using h2
                    have t3 : (tk == tky) = true := by simpa using h3
                    have t4 : (fd == fdy) = true := by simpa using h4
                    have HB5 := Lib.hid h5
                    have HB6 := Lib.hid h6
                    have HB7 := Lib.hid h7
                    have HB8 := Lib.hid h8
                    have HRES : Hid (sameCf ⟨wk, cp, bd, ws, qs, P, tk, fd, sm⟩ ⟨wky, cpy, bdy, wsy, qsy, Py, tky, fdy, smy⟩ = false) := Lib.hid (by unfold sameCf; dsimp only; simp [t0, t1, t2, t3, t4, h5, h6, h7, h8])
                    clear h0 h1 h2 h3 h4 h5 h6 h7 h8
                    go_enter Try.func12, Try.ntmps12
                    go_upto_region 1 with fail
                    rw [HV.out]
                    clear HV
                    obtain ⟨x0, x1, x2, x3, x4, x5, x6, x7, x8⟩ := KX.out.c9e
                    have lX := KX.out.lt
                    obtain ⟨y0, y1, y2, y3, y4, y5, y6, y7, y8⟩ := KY.out.c9e
                    have lY := KY.out.lt
                    go_wp2_with fail
                    refine (equalI_en A Ay n c ny cy ws wsy _ (HX.out.below BB.out).ws (HY.out.below BB.out).ws).mono ?_
                    rw [HB5.out]
                    rintro e2 U5 ⟨rfl, b5⟩
                    clear x0 x1 x2 x3 x4 x5 x6 x7 x8 lX y0 y1 y2 y3 y4 y5 y6 y7 y8 lY
                    replace BB := Lib.hid (below3 BB.out b5)
                    replace KX := Lib.hid (KX.out.below b5 KX.out.lt)
                    replace KY := Lib.hid (KY.out.below b5 KY.out.lt)
                    clear b5
                    obtain ⟨x0, x1, x2, x3, x4, x5, x6, x7, x8⟩ := KX.out.c9e
                    have lX := KX.out.lt
                    obtain ⟨y0, y1, y2, y3, y4, y5, y6, y7, y8⟩ := KY.out.c9e
                    have lY := KY.out.lt
                    go_wp2_with fail
                    refine (equalI_en B By m d my dy qs qsy _ (HX.out.below BB.out).qs (HY.out.below BB.out).qs).mono ?_
                    rw [HB6.out]
                    rintro e2 U6 ⟨rfl, b6⟩
                    clear x0 x1 x2 x3 x4 x5 x6 x7 x8 lX y0 y1 y2 y3 y4 y5 y6 y7 y8 lY
                    replace BB := Lib.hid (below3 BB.out b6)
                    replace KX := Lib.hid (KX.out.below b6 KX.out.lt)
                    replace KY := Lib.hid (KY.out.below b6 KY.out.lt)
                    clear b6
                    obtain ⟨x0, x1, x2, x3, x4, x5, x6, x7, x8⟩ := KX.out.c9e
                    have lX := KX.out.lt
                    obtain ⟨y0, y1, y2, y3, y4, y5, y6, y7, y8⟩ := KY.out.c9e
                    have lY := KY.out.lt
                    go_wp2_with fail
                    refine (equalI_en G Gy r h ry hy sm smy _ (HX.out.below BB.out).sm (HY.out.below BB.out).sm).mono ?_
                    rw [HB7.out]
                    rintro e2 U7 ⟨rfl, b7⟩
                    clear x0 x1 x2 x3 x4 x5 x6 x7 x8 lX y0 y1 y2 y3 y4 y5 y6 y7 y8 lY
                    replace BB := Lib.hid (below3 BB.out b7)
                    replace KX := Lib.hid (KX.out.below b7 KX.out.lt)
                    replace KY := Lib.hid (KY.out.below b7 KY.out.lt)
                    clear b7
                    obtain ⟨x0, x1, x2, x3, x4, x5, x6, x7, x8⟩ := KX.out.c9e
                    have lX := KX.out.lt
                    obtain ⟨y0, y1, y2, y3, y4, y5, y6, y7, y8⟩ := KY.out.c9e
                    have lY := KY.out.lt
                    go_wp2_with fail
                    refine (same_any F Fy q e qy ey P Py _ (HX.out.below BB.out).P (HY.out.below BB.out).P).mono ?_
                    rw [HB8.out]
                    rintro e2 U8 ⟨rfl, b8⟩
                    clear x0 x1 x2 x3 x4 x5 x6 x7 x8 lX y0 y1 y2 y3 y4 y5 y6 y7 y8 lY
                    replace BB := Lib.hid (below3 BB.out b8)
                    replace KX := Lib.hid (KX.out.below b8 KX.out.lt)
                    replace KY := Lib.hid (KY.out.below b8 KY.out.lt)
                    clear b8
                    obtain ⟨x0, x1, x2, x3, x4, x5, x6, x7, x8⟩ := KX.out.c9e
                    have lX := KX.out.lt
                    obtain ⟨y0, y1, y2, y3, y4, y5, y6, y7, y8⟩ := KY.out.c9e
                    have lY := KY.out.lt
                    go_wp2_with fail
                    go_ret
                    exact ⟨by rw [HRES.out]; rfl, BB.out⟩
                  · have t0 : (wk == wky) = true := by simpa using h0
                    have t1 : (cp == cpy) = true := by simpa using h1
                    have t2 : (bd == bdy) = true := by simpa using h2
                    have t3 : (tk == tky) = true := by simpa using h3
                    have t4 : (fd == fdy) = true := by simpa using h4
                    have HB5 := Lib.hid h5
                    have HB6 := Lib.hid h6
                    have HB7 := Lib.hid h7
                    have HB8 := Lib.hid h8
                    have HRES : Hid (sameCf ⟨wk, cp, bd, ws, qs, P, tk, fd, sm⟩ ⟨wky, cpy, bdy, wsy, qsy, Py, tky, fdy, smy⟩ = true) := Lib.hid (by unfold sameCf; dsimp only; simp [t0, t1, t2, t3, t4, h5, h6, h7, h8])
                    clear h0 h1 h2 h3 h4 h5 h6 h7 h8
                    go_enter Try.func12, Try.ntmps12
                    go_upto_region 1 with fail
                    rw [HV.out]
                    clear HV
                    obtain ⟨x0, x1, x2, x3, x4, x5, x6, x7, x8⟩ := KX.out.c9e
                    have lX := KX.out.lt
                    obtain ⟨y0, y1, y2, y3, y4, y5, y6, y7, y8⟩ := KY.out.c9e
                    have lY := KY.out.lt
                    go_wp2_with fail
                    refine (equalI_en A Ay n c ny cy ws wsy _ (HX.out.below BB.out).ws (HY.out.below BB.out).ws).mono ?_
                    rw [HB5.out]
                    rintro e2 U5 ⟨rfl, b5⟩
                    clear x0 x1 x2 x3 x4 x5 x6 x7 x8 lX y0 y1 y2 y3 y4 y5 y6 y7 y8 lY
                    replace BB := Lib.hid (below3 BB.out b5)
                    replace KX := Lib.hid (KX.out.below b5 KX.out.lt)
                    replace KY := Lib.hid (KY.out.below b5 KY.out.lt)
                    clear b5
                    obtain ⟨x0, x1, x2, x3, x4, x5, x6, x7, x8⟩ := KX.out.c9e
                    have lX := KX.out.lt
                    obtain ⟨y0, y1, y2, y3, y4, y5, y6, y7, y8⟩ := KY.out.c9e
                    have lY := KY.out.lt
                    go_wp2_with fail
                    refine (equalI_en B By m d my dy qs qsy _ (HX.out.below BB.out).qs (HY.out.below BB.out).qs).mono ?_
                    rw [HB6.out]
                    rintro e2 U6 ⟨rfl, b6⟩
                    clear x0 x1 x2 x3 x4 x5 x6 x7 x8 lX y0 y1 y2 y3 y4 y5 y6 y7 y8 lY
                    replace BB := Lib.hid (below3 BB.out b6)
                    replace KX := Lib.hid (KX.out.below b6 KX.out.lt)
                    replace KY := Lib.hid (KY.out.below b6 KY.out.lt)
                    clear b6
                    obtain ⟨x0, x1, x2, x3, x4, x5, x6, x7, x8⟩ := KX.out.c9e
                    have lX := KX.out.lt
                    obtain ⟨y0, y1, y2, y3, y4, y5, y6, y7, y8⟩ := KY.out.c9e
                    have lY := KY.out.lt
                    go_wp2_with fail
                    refine (equalI_en G Gy r h ry hy sm smy _ (HX.out.below BB.out).sm (HY.out.below BB.out).sm).mono ?_
                    rw [HB7.out]
                    rintro e2 U7 ⟨rfl, b7⟩
                    clear x0 x1 x2 x3 x4 x5 x6 x7 x8 lX y0 y1 y2 y3 y4 y5 y6 y7 y8 lY
                    replace BB := Lib.hid (below3 BB.out b7)
                    replace KX := Lib.hid (KX.out.below b7 KX.out.lt)
                    replace KY := Lib.hid (KY.out.below b7 KY.out.lt)
                    clear b7
                    obtain ⟨x0, x1, x2, x3, x4, x5, x6, x7, x8⟩ := KX.out.c9e
                    have lX := KX.out.lt
                    obtain ⟨y0, y1, y2, y3, y4, y5, y6, y7, y8⟩ := KY.out.c9e
                    have lY := KY.out.lt
                    go_wp2_with fail
                    refine (same_any F Fy q e qy ey P Py _ (HX.out.below BB.out).P (HY.out.below BB.out).P).mono ?_
                    rw [HB8.out]
                    rintro e2 U8 ⟨rfl, b8⟩
                    clear x0 x1 x2 x3 x4 x5 x6 x7 x8 lX y0 y1 y2 y3 y4 y5 y6 y7 y8 lY
                    replace BB := Lib.hid (below3 BB.out b8)
                    replace KX := Lib.hid (KX.out.below b8 KX.out.lt)
                    replace KY := Lib.hid (KY.out.below b8 KY.out.lt)
                    clear b8
                    obtain ⟨x0, x1, x2, x3, x4, x5, x6, x7, x8⟩ := KX.out.c9e
                    have lX := KX.out.lt
                    obtain ⟨y0, y1, y2, y3, y4, y5, y6, y7, y8⟩ := KY.out.c9e
                    have lY := KY.out.lt
                    go_wp2_with fail
                    go_ret
                    exact ⟨by rw [HRES.out]; rfl, BB.out⟩
          · have t0 : (wk == wky) = true := by simpa using h0
            have t1 : (cp == cpy) = true := by simpa using h1
            have t2 : (bd == bdy) = true := by simpa using h2
            have t3 : (tk == tky) = true := by simpa using h3
            have t4 : (fd == fdy) = false := by simpa using h4
            have HRES : Hid (sameCf ⟨wk, cp, bd, ws, qs, P, tk, fd, sm⟩ ⟨wky, cpy, bdy, wsy, qsy, Py, tky, fdy, smy⟩ = false) := Lib.hid (by unfold sameCf; dsimp only; simp [t0, t1, t2, t3, t4])
            clear h0 h1 h2 h3 h4
            go_enter Try.func12, Try.ntmps12
            go_upto_region 1 with fail
            rw [HV.out]
            clear HV
            obtain ⟨x0, x1, x2, x3, x4, x5, x6, x7, x8⟩ := KX.out.c9e
            have lX := KX.out.lt
            obtain ⟨y0, y1, y2, y3, y4, y5, y6, y7, y8⟩ := KY.out.c9e
            have lY := KY.out.lt
            go_wp2_with fail
            go_ret
            exact ⟨by rw [HRES.out]; rfl, BB.out⟩
        · have t0 : (wk == wky) = true := by simpa using h0
          have t1 : (cp == cpy) = true := by simpa using h1
          have t2 : (bd == bdy) = true := by simpa using h2
          have t3 : (tk == tky) = false := by simpa using h3
          have HRES : Hid (sameCf ⟨wk, cp, bd, ws, qs, P, tk, fd, sm⟩ ⟨wky, cpy, bdy, wsy, qsy, Py, tky, fdy, smy⟩ = false) := Lib.hid (by unfold sameCf; dsimp only; simp [t0, t1, t2, t3])
          clear h0 h1 h2 h3
          go_enter Try.func12, Try.ntmps12
          go_upto_region 1 with fail
          rw [HV.out]
          clear HV
          obtain ⟨x0, x1, x2, x3, x4, x5, x6, x7, x8⟩ := KX.out.c9e
          have lX := KX.out.lt
          obtain ⟨y0, y1, y2, y3, y4, y5, y6, y7, y8⟩ := KY.out.c9e
          have lY := KY.out.lt
          go_wp2_with fail
          go_ret
          exact ⟨by rw [HRES.out]; rfl, BB.out⟩
      · have t0 : (wk == wky) = true := by simpa using h0
        have t1 : (cp == cpy) = true := by simpa using h1
        have t2 : (bd == bdy) = false := by simpa using h2
        have HRES : Hid (sameCf ⟨wk, cp, bd, ws, qs, P, tk, fd, sm⟩ ⟨wky, cpy, bdy, wsy, qsy, Py, tky, fdy, smy⟩ = false) := Lib.hid (by unfold sameCf; dsimp only; simp [t0, t1, t2])
        clear h0 h1 h2
        go_enter Try.func12, Try.ntmps12
        go_upto_region 1 with fail
        rw [HV.out]
        clear HV
        obtain ⟨x0, x1, x2, x3, x4, x5, x6, x7, x8⟩ := KX.out.c9e
        have lX := KX.out.lt
        obtain ⟨y0, y1, y2, y3, y4, y5, y6, y7, y8⟩ := KY.out.c9e
        have lY := KY.out.lt
        go_wp2_with fail
        go_ret
        exact ⟨by rw [HRES.out]; rfl, BB.out⟩
    · have t0 : (wk == wky) = true := by simpa using h0
      have t1 : (cp == cpy) = false := by simpa using h1
      have HRES : Hid (sameCf ⟨wk, cp, bd, ws, qs, P, tk, fd, sm⟩ ⟨wky, cpy, bdy, wsy, qsy, Py, tky, fdy, smy⟩ = false) := Lib.hid (by unfold sameCf; dsimp only; simp [t0, t1])
      clear h0 h1
      go_enter Try.func12, Try.ntmps12
      go_upto_region 1 with fail
      rw [HV.out]
      clear HV
      obtain ⟨x0, x1, x2, x3, x4, x5, x6, x7, x8⟩ := KX.out.c9e
      have lX := KX.out.lt
      obtain ⟨y0, y1, y2, y3, y4, y5, y6, y7, y8⟩ := KY.out.c9e
      have lY := KY.out.lt
      go_wp2_with fail
      go_ret
      exact ⟨by rw [HRES.out]; rfl, BB.out⟩
  · have t0 : (wk == wky) = false := by simpa using h0
    have HRES : Hid (sameCf ⟨wk, cp, bd, ws, qs, P, tk, fd, sm⟩ ⟨wky, cpy, bdy, wsy, qsy, Py, tky, fdy, smy⟩ = false) := Lib.hid (by unfold sameCf; dsimp only; simp [t0])
    clear h0
    go_enter Try.func12, Try.ntmps12
    go_upto_region 1 with fail
    rw [HV.out]
    clear HV
    obtain ⟨x0, x1, x2, x3, x4, x5, x6, x7, x8⟩ := KX.out.c9e
    have lX := KX.out.lt
    obtain ⟨y0, y1, y2, y3, y4, y5, y6, y7, y8⟩ := KY.out.c9e
    have lY := KY.out.lt
    go_wp2_with fail
    go_ret
    exact ⟨by rw [HRES.out]; rfl, BB.out⟩

end Go.Proofs.Ytpfnoohcilefhaa

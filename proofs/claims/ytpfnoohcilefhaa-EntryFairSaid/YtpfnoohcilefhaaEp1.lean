/-
  Layer 19, the program: what may be, Check, Write, Only.
-/
import Derived.Test.YtpfnoohcilefhaaEnb
import Derived.Test.YtpfnoohcilefhaaFind
import Derived.OwnWalk
namespace Go.Proofs.Ytpfnoohcilefhaa
open Go.RowKit

theorem within_en (x a b : Int) (w : World) : Calls Try.prog 40 #[.int .i64 x, .int .i64 a, .int .i64 b] w fun e w' => e = .returned (.bool (decide (a ≤ x) && decide (x ≤ b))) ∧ w = w' := by
  by_cases h : a ≤ x
  · have h1 := decide_eq_true h
    rw [h1, Bool.true_and]
    clear h
    go_enter Try.func40, Try.ntmps40
    go_wp2_with fail
    go_ret
    exact ⟨rfl, rfl⟩
  · have h1 := decide_eq_false h
    rw [h1, Bool.false_and]
    clear h
    go_enter Try.func40, Try.ntmps40
    go_wp2_with fail
    go_ret
    exact ⟨rfl, rfl⟩

set_option maxHeartbeats 4000000 in
theorem may_en (x : I3) (w : World) :
    Calls Try.prog 38 #[.agg #[.int .i64 x.1, .int .i64 x.2.1, .int .i64 x.2.2]] w (RetB (.bool (mayE x)) w) := by
  obtain ⟨kd, xa, xb⟩ := x
  dsimp only
  by_cases h1 : 0 ≤ kd ∧ kd ≤ 7
  · by_cases h2 : 0 ≤ xa ∧ xa ≤ 255
    · by_cases h3 : 0 ≤ xb ∧ xb ≤ 255
      · by_cases b0 : xb = 0
        · by_cases a0 : xa = 0
          · have HM : Hid (mayE (kd, xa, xb) = true) := Lib.hid (mayE_iff.2 (by dsimp only; omega))
            have r1a : decide ((0 : Int) ≤ kd) = true := decide_eq_true (by omega)
            have r1b : decide (kd ≤ 7) = true := decide_eq_true (by omega)
            have r1 : (decide ((0 : Int) ≤ kd) && decide (kd ≤ 7)) = true := by rw [r1a, r1b]; rfl
            clear r1a r1b
            have r2a : decide ((0 : Int) ≤ xa) = true := decide_eq_true (by omega)
            have r2b : decide (xa ≤ 255) = true := decide_eq_true (by omega)
            have r2 : (decide ((0 : Int) ≤ xa) && decide (xa ≤ 255)) = true := by rw [r2a, r2b]; rfl
            clear r2a r2b
            have r3a : decide ((0 : Int) ≤ xb) = true := decide_eq_true (by omega)
            have r3b : decide (xb ≤ 255) = true := decide_eq_true (by omega)
            have r3 : (decide ((0 : Int) ≤ xb) && decide (xb ≤ 255)) = true := by rw [r3a, r3b]; rfl
            clear r3a r3b
            have HR1 := Lib.hid r1
            have HR2 := Lib.hid r2
            have HR3 := Lib.hid r3
            clear r1 r2 r3
            have tb : (xb == 0) = true ∧ (xb != 0) = false := by constructor <;> (simp; omega)
            obtain ⟨tb, tbn⟩ := tb
            have ta : (xa == 0) = true ∧ (xa != 0) = false := by constructor <;> (simp; omega)
            obtain ⟨ta, tan⟩ := ta
            clear h1 h2 h3 a0 b0
            rw [show mayE (kd, xa, xb) = true from HM.out]
            obtain ⟨kb, hb0⟩ := lay1 w #[.int .i64 kd, .int .i64 xa, .int .i64 xb] 45
            obtain ⟨V, hV⟩ : ∃ V, w.alloc (.cells #[.int .i64 kd, .int .i64 xa, .int .i64 xb] 45) = V := ⟨_, rfl⟩
            rw [hV] at hb0 kb
            have HV := Lib.hid hV
            have BB := Lib.hid hb0
            have KE := Lib.hid kb
            clear hV hb0 kb
            go_enter Try.func38, Try.ntmps38
            go_upto_region 1 with fail
            rw [HV.out]
            clear HV
            obtain ⟨q0, q1, q2⟩ := KE.out.c3e
            have lE := KE.out.lt
            go_wp2_with fail
            refine (within_en kd 0 7 _).mono ?_
            rw [HR1.out]
            try dsimp only [Bool.and_true, Bool.true_and, Bool.and_false, Bool.false_and]
            rintro e u1 ⟨rfl, hw⟩
            have hw2 := hw.symm
            subst hw2
            clear hw
            go_wp2_with fail
            refine (within_en xa 0 255 _).mono ?_
            rw [HR2.out]
            try dsimp only [Bool.and_true, Bool.true_and, Bool.and_false, Bool.false_and]
            rintro e u1 ⟨rfl, hw⟩
            have hw2 := hw.symm
            subst hw2
            clear hw
            go_wp2_with fail
            refine (within_en xb 0 255 _).mono ?_
            rw [HR3.out]
            try dsimp only [Bool.and_true, Bool.true_and, Bool.and_false, Bool.false_and]
            rintro e u1 ⟨rfl, hw⟩
            have hw2 := hw.symm
            subst hw2
            clear hw
            go_wp2_with fail
            go_ret
            exact ⟨rfl, BB.out⟩
          · by_cases k7 : kd = 7
            · have HM : Hid (mayE (kd, xa, xb) = false) := Lib.hid (by cases e : mayE (kd, xa, xb) with | false => rfl | true => have q := mayE_iff.1 e; dsimp only at q; omega)
              have r1a : decide ((0 : Int) ≤ kd) = true := decide_eq_true (by omega)
              have r1b : decide (kd ≤ 7) = true := decide_eq_true (by omega)
              have r1 : (decide ((0 : Int) ≤ kd) && decide (kd ≤ 7)) = true := by rw [r1a, r1b]; rfl
              clear r1a r1b
              have r2a : decide ((0 : Int) ≤ xa) = true := decide_eq_true (by omega)
              have r2b : decide (xa ≤ 255) = true := decide_eq_true (by omega)
              have r2 : (decide ((0 : Int) ≤ xa) && decide (xa ≤ 255)) = true := by rw [r2a, r2b]; rfl
              clear r2a r2b
              have r3a : decide ((0 : Int) ≤ xb) = true := decide_eq_true (by omega)
              have r3b : decide (xb ≤ 255) = true := decide_eq_true (by omega)
              have r3 : (decide ((0 : Int) ≤ xb) && decide (xb ≤ 255)) = true := by rw [r3a, r3b]; rfl
              clear r3a r3b
              have HR1 := Lib.hid r1
              have HR2 := Lib.hid r2
              have HR3 := Lib.hid r3
              clear r1 r2 r3
              have tb : (xb == 0) = true ∧ (xb != 0) = false := by constructor <;> (simp; omega)
              obtain ⟨tb, tbn⟩ := tb
              have ta : (xa == 0) = false ∧ (xa != 0) = true := by constructor <;> (simp; omega)
              obtain ⟨ta, tan⟩ := ta
              have t7 : (kd == 7) = true ∧ (kd != 7) = false := by constructor <;> (simp; omega)
              obtain ⟨t7, t7n⟩ := t7
              clear h1 h2 h3 a0 k7 b0
              rw [show mayE (kd, xa, xb) = false from HM.out]
              obtain ⟨kb, hb0⟩ := lay1 w #[.int .i64 kd, .int .i64 xa, .int .i64 xb] 45
              obtain ⟨V, hV⟩ : ∃ V, w.alloc (.cells #[.int .i64 kd, .int .i64 xa, .int .i64 xb] 45) = V := ⟨_, rfl⟩
              rw [hV] at hb0 kb
              have HV := Lib.hid hV
              have BB := Lib.hid hb0
              have KE := Lib.hid kb
              clear hV hb0 kb
              go_enter Try.func38, Try.ntmps38
              go_upto_region 1 with fail
              rw [HV.out]
              clear HV
              obtain ⟨q0, q1, q2⟩ := KE.out.c3e
              have lE := KE.out.lt
              go_wp2_with fail
              refine (within_en kd 0 7 _).mono ?_
              rw [HR1.out]
              try dsimp only [Bool.and_true, Bool.true_and, Bool.and_false, Bool.false_and]
              rintro e u1 ⟨rfl, hw⟩
              have hw2 := hw.symm
              subst hw2
              clear hw
              go_wp2_with fail
              refine (within_en xa 0 255 _).mono ?_
              rw [HR2.out]
              try dsimp only [Bool.and_true, Bool.true_and, Bool.and_false, Bool.false_and]
              rintro e u1 ⟨rfl, hw⟩
              have hw2 := hw.symm
              subst hw2
              clear hw
              go_wp2_with fail
              refine (within_en xb 0 255 _).mono ?_
              rw [HR3.out]
              try dsimp only [Bool.and_true, Bool.true_and, Bool.and_false, Bool.false_and]
              rintro e u1 ⟨rfl, hw⟩
              have hw2 := hw.symm
              subst hw2
              clear hw
              go_wp2_with fail
              go_ret
              exact ⟨rfl, BB.out⟩
            · have HM : Hid (mayE (kd, xa, xb) = true) := Lib.hid (mayE_iff.2 (by dsimp only; omega))
              have r1a : decide ((0 : Int) ≤ kd) = true := decide_eq_true (by omega)
              have r1b : decide (kd ≤ 7) = true := decide_eq_true (by omega)
              have r1 : (decide ((0 : Int) ≤ kd) && decide (kd ≤ 7)) = true := by rw [r1a, r1b]; rfl
              clear r1a r1b
              have r2a : decide ((0 : Int) ≤ xa) = true := decide_eq_true (by omega)
              have r2b : decide (xa ≤ 255) = true := decide_eq_true (by omega)
              have r2 : (decide ((0 : Int) ≤ xa) && decide (xa ≤ 255)) = true := by rw [r2a, r2b]; rfl
              clear r2a r2b
              have r3a : decide ((0 : Int) ≤ xb) = true := decide_eq_true (by omega)
              have r3b : decide (xb ≤ 255) = true := decide_eq_true (by omega)
              have r3 : (decide ((0 : Int) ≤ xb) && decide (xb ≤ 255)) = true := by rw [r3a, r3b]; rfl
              clear r3a r3b
              have HR1 := Lib.hid r1
              have HR2 := Lib.hid r2
              have HR3 := Lib.hid r3
              clear r1 r2 r3
              have tb : (xb == 0) = true ∧ (xb != 0) = false := by constructor <;> (simp; omega)
              obtain ⟨tb, tbn⟩ := tb
              have ta : (xa == 0) = false ∧ (xa != 0) = true := by constructor <;> (simp; omega)
              obtain ⟨ta, tan⟩ := ta
              have t7 : (kd == 7) = false ∧ (kd != 7) = true := by constructor <;> (simp; omega)
              obtain ⟨t7, t7n⟩ := t7
              clear h1 h2 h3 a0 k7 b0
              rw [show mayE (kd, xa, xb) = true from HM.out]
              obtain ⟨kb, hb0⟩ := lay1 w #[.int .i64 kd, .int .i64 xa, .int .i64 xb] 45
              obtain ⟨V, hV⟩ : ∃ V, w.alloc (.cells #[.int .i64 kd, .int .i64 xa, .int .i64 xb] 45) = V := ⟨_, rfl⟩
              rw [hV] at hb0 kb
              have HV := Lib.hid hV
              have BB := Lib.hid hb0
              have KE := Lib.hid kb
              clear hV hb0 kb
              go_enter Try.func38, Try.ntmps38
              go_upto_region 1 with fail
              rw [HV.out]
              clear HV
              obtain ⟨q0, q1, q2⟩ := KE.out.c3e
              have lE := KE.out.lt
              go_wp2_with fail
              refine (within_en kd 0 7 _).mono ?_
              rw [HR1.out]
              try dsimp only [Bool.and_true, Bool.true_and, Bool.and_false, Bool.false_and]
              rintro e u1 ⟨rfl, hw⟩
              have hw2 := hw.symm
              subst hw2
              clear hw
              go_wp2_with fail
              refine (within_en xa 0 255 _).mono ?_
              rw [HR2.out]
              try dsimp only [Bool.and_true, Bool.true_and, Bool.and_false, Bool.false_and]
              rintro e u1 ⟨rfl, hw⟩
              have hw2 := hw.symm
              subst hw2
              clear hw
              go_wp2_with fail
              refine (within_en xb 0 255 _).mono ?_
              rw [HR3.out]
              try dsimp only [Bool.and_true, Bool.true_and, Bool.and_false, Bool.false_and]
              rintro e u1 ⟨rfl, hw⟩
              have hw2 := hw.symm
              subst hw2
              clear hw
              go_wp2_with fail
              go_ret
              exact ⟨rfl, BB.out⟩
        · by_cases k1 : kd = 1
          · by_cases a0 : xa = 0
            · have HM : Hid (mayE (kd, xa, xb) = true) := Lib.hid (mayE_iff.2 (by dsimp only; omega))
              have r1a : decide ((0 : Int) ≤ kd) = true := decide_eq_true (by omega)
              have r1b : decide (kd ≤ 7) = true := decide_eq_true (by omega)
              have r1 : (decide ((0 : Int) ≤ kd) && decide (kd ≤ 7)) = true := by rw [r1a, r1b]; rfl
              clear r1a r1b
              have r2a : decide ((0 : Int) ≤ xa) = true := decide_eq_true (by omega)
              have r2b : decide (xa ≤ 255) = true := decide_eq_true (by omega)
              have r2 : (decide ((0 : Int) ≤ xa) && decide (xa ≤ 255)) = true := by rw [r2a, r2b]; rfl
              clear r2a r2b
              have r3a : decide ((0 : Int) ≤ xb) = true := decide_eq_true (by omega)
              have r3b : decide (xb ≤ 255) = true := decide_eq_true (by omega)
              have r3 : (decide ((0 : Int) ≤ xb) && decide (xb ≤ 255)) = true := by rw [r3a, r3b]; rfl
              clear r3a r3b
              have HR1 := Lib.hid r1
              have HR2 := Lib.hid r2
              have HR3 := Lib.hid r3
              clear r1 r2 r3
              have tb : (xb == 0) = false ∧ (xb != 0) = true := by constructor <;> (simp; omega)
              obtain ⟨tb, tbn⟩ := tb
              have t1 : (kd == 1) = true ∧ (kd != 1) = false := by constructor <;> (simp; omega)
              obtain ⟨t1, t1n⟩ := t1
              have ta : (xa == 0) = true ∧ (xa != 0) = false := by constructor <;> (simp; omega)
              obtain ⟨ta, tan⟩ := ta
              clear h1 h2 h3 a0 b0 k1
              rw [show mayE (kd, xa, xb) = true from HM.out]
              obtain ⟨kb, hb0⟩ := lay1 w #[.int .i64 kd, .int .i64 xa, .int .i64 xb] 45
              obtain ⟨V, hV⟩ : ∃ V, w.alloc (.cells #[.int .i64 kd, .int .i64 xa, .int .i64 xb] 45) = V := ⟨_, rfl⟩
              rw [hV] at hb0 kb
              have HV := Lib.hid hV
              have BB := Lib.hid hb0
              have KE := Lib.hid kb
              clear hV hb0 kb
              go_enter Try.func38, Try.ntmps38
              go_upto_region 1 with fail
              rw [HV.out]
              clear HV
              obtain ⟨q0, q1, q2⟩ := KE.out.c3e
              have lE := KE.out.lt
              go_wp2_with fail
              refine (within_en kd 0 7 _).mono ?_
              rw [HR1.out]
              try dsimp only [Bool.and_true, Bool.true_and, Bool.and_false, Bool.false_and]
              rintro e u1 ⟨rfl, hw⟩
              have hw2 := hw.symm
              subst hw2
              clear hw
              go_wp2_with fail
              refine (within_en xa 0 255 _).mono ?_
              rw [HR2.out]
              try dsimp only [Bool.and_true, Bool.true_and, Bool.and_false, Bool.false_and]
              rintro e u1 ⟨rfl, hw⟩
              have hw2 := hw.symm
              subst hw2
              clear hw
              go_wp2_with fail
              refine (within_en xb 0 255 _).mono ?_
              rw [HR3.out]
              try dsimp only [Bool.and_true, Bool.true_and, Bool.and_false, Bool.false_and]
              rintro e u1 ⟨rfl, hw⟩
              have hw2 := hw.symm
              subst hw2
              clear hw
              go_wp2_with fail
              go_ret
              exact ⟨rfl, BB.out⟩
            · by_cases k7 : kd = 7
              · have HM : Hid (mayE (kd, xa, xb) = false) := Lib.hid (by cases e : mayE (kd, xa, xb) with | false => rfl | true => have q := mayE_iff.1 e; dsimp only at q; omega)
                have r1a : decide ((0 : Int) ≤ kd) = true := decide_eq_true (by omega)
                have r1b : decide (kd ≤ 7) = true := decide_eq_true (by omega)
                have r1 : (decide ((0 : Int) ≤ kd) && decide (kd ≤ 7)) = true := by rw [r1a, r1b]; rfl
                clear r1a r1b
                have r2a : decide ((0 : Int) ≤ xa) = true := decide_eq_true (by omega)
                have r2b : decide (xa ≤ 255) = true := decide_eq_true (by omega)
                have r2 : (decide ((0 : Int) ≤ xa) && decide (xa ≤ 255)) = true := by rw [r2a, r2b]; rfl
                clear r2a r2b
                have r3a : decide ((0 : Int) ≤ xb) = true := decide_eq_true (by omega)
                have r3b : decide (xb ≤ 255) = true := decide_eq_true (by omega)
                have r3 : (decide ((0 : Int) ≤ xb) && decide (xb ≤ 255)) = true := by rw [r3a, r3b]; rfl
                clear r3a r3b
                have HR1 := Lib.hid r1
                have HR2 := Lib.hid r2
                have HR3 := Lib.hid r3
                clear r1 r2 r3
                have tb : (xb == 0) = false ∧ (xb != 0) = true := by constructor <;> (simp; omega)
                obtain ⟨tb, tbn⟩ := tb
                have t1 : (kd == 1) = true ∧ (kd != 1) = false := by constructor <;> (simp; omega)
                obtain ⟨t1, t1n⟩ := t1
                have ta : (xa == 0) = false ∧ (xa != 0) = true := by constructor <;> (simp; omega)
                obtain ⟨ta, tan⟩ := ta
                have t7 : (kd == 7) = true ∧ (kd != 7) = false := by constructor <;> (simp; omega)
                obtain ⟨t7, t7n⟩ := t7
                clear h1 h2 h3 a0 k7 b0 k1
                rw [show mayE (kd, xa, xb) = false from HM.out]
                obtain ⟨kb, hb0⟩ := lay1 w #[.int .i64 kd, .int .i64 xa, .int .i64 xb] 45
                obtain ⟨V, hV⟩ : ∃ V, w.alloc (.cells #[.int .i64 kd, .int .i64 xa, .int .i64 xb] 45) = V := ⟨_, rfl⟩
                rw [hV] at hb0 kb
                have HV := Lib.hid hV
                have BB := Lib.hid hb0
                have KE := Lib.hid kb
                clear hV hb0 kb
                go_enter Try.func38, Try.ntmps38
                go_upto_region 1 with fail
                rw [HV.out]
                clear HV
                obtain ⟨q0, q1, q2⟩ := KE.out.c3e
                have lE := KE.out.lt
                go_wp2_with fail
                refine (within_en kd 0 7 _).mono ?_
                rw [HR1.out]
                try dsimp only [Bool.and_true, Bool.true_and, Bool.and_false, Bool.false_and]
                rintro e u1 ⟨rfl, hw⟩
                have hw2 := hw.symm
                subst hw2
                clear hw
                go_wp2_with fail
                refine (within_en xa 0 255 _).mono ?_
                rw [HR2.out]
                try dsimp only [Bool.and_true, Bool.true_and, Bool.and_false, Bool.false_and]
                rintro e u1 ⟨rfl, hw⟩
                have hw2 := hw.symm
                subst hw2
                clear hw
                go_wp2_with fail
                refine (within_en xb 0 255 _).mono ?_
                rw [HR3.out]
                try dsimp only [Bool.and_true, Bool.true_and, Bool.and_false, Bool.false_and]
                rintro e u1 ⟨rfl, hw⟩
                have hw2 := hw.symm
                subst hw2
                clear hw
                go_wp2_with fail
                go_ret
                exact ⟨rfl, BB.out⟩
              · have HM : Hid (mayE (kd, xa, xb) = true) := Lib.hid (mayE_iff.2 (by dsimp only; omega))
                have r1a : decide ((0 : Int) ≤ kd) = true := decide_eq_true (by omega)
                have r1b : decide (kd ≤ 7) = true := decide_eq_true (by omega)
                have r1 : (decide ((0 : Int) ≤ kd) && decide (kd ≤ 7)) = true := by rw [r1a, r1b]; rfl
                clear r1a r1b
                have r2a : decide ((0 : Int) ≤ xa) = true := decide_eq_true (by omega)
                have r2b : decide (xa ≤ 255) = true := decide_eq_true (by omega)
                have r2 : (decide ((0 : Int) ≤ xa) && decide (xa ≤ 255)) = true := by rw [r2a, r2b]; rfl
                clear r2a r2b
                have r3a : decide ((0 : Int) ≤ xb) = true := decide_eq_true (by omega)
                have r3b : decide (xb ≤ 255) = true := decide_eq_true (by omega)
                have r3 : (decide ((0 : Int) ≤ xb) && decide (xb ≤ 255)) = true := by rw [r3a, r3b]; rfl
                clear r3a r3b
                have HR1 := Lib.hid r1
                have HR2 := Lib.hid r2
                have HR3 := Lib.hid r3
                clear r1 r2 r3
                have tb : (xb == 0) = false ∧ (xb != 0) = true := by constructor <;> (simp; omega)
                obtain ⟨tb, tbn⟩ := tb
                have t1 : (kd == 1) = true ∧ (kd != 1) = false := by constructor <;> (simp; omega)
                obtain ⟨t1, t1n⟩ := t1
                have ta : (xa == 0) = false ∧ (xa != 0) = true := by constructor <;> (simp; omega)
                obtain ⟨ta, tan⟩ := ta
                have t7 : (kd == 7) = false ∧ (kd != 7) = true := by constructor <;> (simp; omega)
                obtain ⟨t7, t7n⟩ := t7
                clear h1 h2 h3 a0 k7 b0 k1
                rw [show mayE (kd, xa, xb) = true from HM.out]
                obtain ⟨kb, hb0⟩ := lay1 w #[.int .i64 kd, .int .i64 xa, .int .i64 xb] 45
                obtain ⟨V, hV⟩ : ∃ V, w.alloc (.cells #[.int .i64 kd, .int .i64 xa, .int .i64 xb] 45) = V := ⟨_, rfl⟩
                rw [hV] at hb0 kb
                have HV := Lib.hid hV
                have BB := Lib.hid hb0
                have KE := Lib.hid kb
                clear hV hb0 kb
                go_enter Try.func38, Try.ntmps38
                go_upto_region 1 with fail
                rw [HV.out]
                clear HV
                obtain ⟨q0, q1, q2⟩ := KE.out.c3e
                have lE := KE.out.lt
                go_wp2_with fail
                refine (within_en kd 0 7 _).mono ?_
                rw [HR1.out]
                try dsimp only [Bool.and_true, Bool.true_and, Bool.and_false, Bool.false_and]
                rintro e u1 ⟨rfl, hw⟩
                have hw2 := hw.symm
                subst hw2
                clear hw
                go_wp2_with fail
                refine (within_en xa 0 255 _).mono ?_
                rw [HR2.out]
                try dsimp only [Bool.and_true, Bool.true_and, Bool.and_false, Bool.false_and]
                rintro e u1 ⟨rfl, hw⟩
                have hw2 := hw.symm
                subst hw2
                clear hw
                go_wp2_with fail
                refine (within_en xb 0 255 _).mono ?_
                rw [HR3.out]
                try dsimp only [Bool.and_true, Bool.true_and, Bool.and_false, Bool.false_and]
                rintro e u1 ⟨rfl, hw⟩
                have hw2 := hw.symm
                subst hw2
                clear hw
                go_wp2_with fail
                go_ret
                exact ⟨rfl, BB.out⟩
          · by_cases k4 : kd = 4
            · by_cases a0 : xa = 0
              · have HM : Hid (mayE (kd, xa, xb) = true) := Lib.hid (mayE_iff.2 (by dsimp only; omega))
                have r1a : decide ((0 : Int) ≤ kd) = true := decide_eq_true (by omega)
                have r1b : decide (kd ≤ 7) = true := decide_eq_true (by omega)
                have r1 : (decide ((0 : Int) ≤ kd) && decide (kd ≤ 7)) = true := by rw [r1a, r1b]; rfl
                clear r1a r1b
                have r2a : decide ((0 : Int) ≤ xa) = true := decide_eq_true (by omega)
                have r2b : decide (xa ≤ 255) = true := decide_eq_true (by omega)
                have r2 : (decide ((0 : Int) ≤ xa) && decide (xa ≤ 255)) = true := by rw [r2a, r2b]; rfl
                clear r2a r2b
                have r3a : decide ((0 : Int) ≤ xb) = true := decide_eq_true (by omega)
                have r3b : decide (xb ≤ 255) = true := decide_eq_true (by omega)
                have r3 : (decide ((0 : Int) ≤ xb) && decide (xb ≤ 255)) = true := by rw [r3a, r3b]; rfl
                clear r3a r3b
                have HR1 := Lib.hid r1
                have HR2 := Lib.hid r2
                have HR3 := Lib.hid r3
                clear r1 r2 r3
                have tb : (xb == 0) = false ∧ (xb != 0) = true := by constructor <;> (simp; omega)
                obtain ⟨tb, tbn⟩ := tb
                have t1 : (kd == 1) = false ∧ (kd != 1) = true := by constructor <;> (simp; omega)
                obtain ⟨t1, t1n⟩ := t1
                have t4 : (kd == 4) = true ∧ (kd != 4) = false := by constructor <;> (simp; omega)
                obtain ⟨t4, t4n⟩ := t4
                have ta : (xa == 0) = true ∧ (xa != 0) = false := by constructor <;> (simp; omega)
                obtain ⟨ta, tan⟩ := ta
                clear h1 h2 h3 a0 b0 k1 k4
                rw [show mayE (kd, xa, xb) = true from HM.out]
                obtain ⟨kb, hb0⟩ := lay1 w #[.int .i64 kd, .int .i64 xa, .int .i64 xb] 45
                obtain ⟨V, hV⟩ : ∃ V, w.alloc (.cells #[.int .i64 kd, .int .i64 xa, .int .i64 xb] 45) = V := ⟨_, rfl⟩
                rw [hV] at hb0 kb
                have HV := Lib.hid hV
                have BB := Lib.hid hb0
                have KE := Lib.hid kb
                clear hV hb0 kb
                go_enter Try.func38, Try.ntmps38
                go_upto_region 1 with fail
                rw [HV.out]
                clear HV
                obtain ⟨q0, q1, q2⟩ := KE.out.c3e
                have lE := KE.out.lt
                go_wp2_with fail
                refine (within_en kd 0 7 _).mono ?_
                rw [HR1.out]
                try dsimp only [Bool.and_true, Bool.true_and, Bool.and_false, Bool.false_and]
                rintro e u1 ⟨rfl, hw⟩
                have hw2 := hw.symm
                subst hw2
                clear hw
                go_wp2_with fail
                refine (within_en xa 0 255 _).mono ?_
                rw [HR2.out]
                try dsimp only [Bool.and_true, Bool.true_and, Bool.and_false, Bool.false_and]
                rintro e u1 ⟨rfl, hw⟩
                have hw2 := hw.symm
                subst hw2
                clear hw
                go_wp2_with fail
                refine (within_en xb 0 255 _).mono ?_
                rw [HR3.out]
                try dsimp only [Bool.and_true, Bool.true_and, Bool.and_false, Bool.false_and]
                rintro e u1 ⟨rfl, hw⟩
                have hw2 := hw.symm
                subst hw2
                clear hw
                go_wp2_with fail
                go_ret
                exact ⟨rfl, BB.out⟩
              · by_cases k7 : kd = 7
                · have HM : Hid (mayE (kd, xa, xb) = false) := Lib.hid (by cases e : mayE (kd, xa, xb) with | false => rfl | true => have q := mayE_iff.1 e; dsimp only at q; omega)
                  have r1a : decide ((0 : Int) ≤ kd) = true := decide_eq_true (by omega)
                  have r1b : decide (kd ≤ 7) = true := decide_eq_true (by omega)
                  have r1 : (decide ((0 : Int) ≤ kd) && decide (kd ≤ 7)) = true := by rw [r1a, r1b]; rfl
                  clear r1a r1b
                  have r2a : decide ((0 : Int) ≤ xa) = true := decide_eq_true (by omega)
                  have r2b : decide (xa ≤ 255) = true := decide_eq_true (by omega)
                  have r2 : (decide ((0 : Int) ≤ xa) && decide (xa ≤ 255)) = true := by rw [r2a, r2b]; rfl
                  clear r2a r2b
                  have r3a : decide ((0 : Int) ≤ xb) = true := decide_eq_true (by omega)
                  have r3b : decide (xb ≤ 255) = true := decide_eq_true (by omega)
                  have r3 : (decide ((0 : Int) ≤ xb) && decide (xb ≤ 255)) = true := by rw [r3a, r3b]; rfl
                  clear r3a r3b
                  have HR1 := Lib.hid r1
                  have HR2 := Lib.hid r2
                  have HR3 := Lib.hid r3
                  clear r1 r2 r3
                  have tb : (xb == 0) = false ∧ (xb != 0) = true := by constructor <;> (simp; omega)
                  obtain ⟨tb, tbn⟩ := tb
                  have t1 : (kd == 1) = false ∧ (kd != 1) = true := by constructor <;> (simp; omega)
                  obtain ⟨t1, t1n⟩ := t1
                  have t4 : (kd == 4) = true ∧ (kd != 4) = false := by constructor <;> (simp; omega)
                  obtain ⟨t4, t4n⟩ := t4
                  have ta : (xa == 0) = false ∧ (xa != 0) = true := by constructor <;> (simp; omega)
                  obtain ⟨ta, tan⟩ := ta
                  have t7 : (kd == 7) = true ∧ (kd != 7) = false := by constructor <;> (simp; omega)
                  obtain ⟨t7, t7n⟩ := t7
                  clear h1 h2 h3 a0 k7 b0 k1 k4
                  rw [show mayE (kd, xa, xb) = false from HM.out]
                  obtain ⟨kb, hb0⟩ := lay1 w #[.int .i64 kd, .int .i64 xa, .int .i64 xb] 45
                  obtain ⟨V, hV⟩ : ∃ V, w.alloc (.cells #[.int .i64 kd, .int .i64 xa, .int .i64 xb] 45) = V := ⟨_, rfl⟩
                  rw [hV] at hb0 kb
                  have HV := Lib.hid hV
                  have BB := Lib.hid hb0
                  have KE := Lib.hid kb
                  clear hV hb0 kb
                  go_enter Try.func38, Try.ntmps38
                  go_upto_region 1 with fail
                  rw [HV.out]
                  clear HV
                  obtain ⟨q0, q1, q2⟩ := KE.out.c3e
                  have lE := KE.out.lt
                  go_wp2_with fail
                  refine (within_en kd 0 7 _).mono ?_
                  rw [HR1.out]
                  try dsimp only [Bool.and_true, Bool.true_and, Bool.and_false, Bool.false_and]
                  rintro e u1 ⟨rfl, hw⟩
                  have hw2 := hw.symm
                  subst hw2
                  clear hw
                  go_wp2_with fail
                  refine (within_en xa 0 255 _).mono ?_
                  rw [HR2.out]
                  try dsimp only [Bool.and_true, Bool.true_and, Bool.and_false, Bool.false_and]
                  rintro e u1 ⟨rfl, hw⟩
                  have hw2 := hw.symm
                  subst hw2
                  clear hw
                  go_wp2_with fail
                  refine (within_en xb 0 255 _).mono ?_
                  rw [HR3.out]
                  try dsimp only [Bool.and_true, Bool.true_and, Bool.and_false, Bool.false_and]
                  rintro e u1 ⟨rfl, hw⟩
                  have hw2 := hw.symm
                  subst hw2
                  clear hw
                  go_wp2_with fail
                  go_ret
                  exact ⟨rfl, BB.out⟩
                · have HM : Hid (mayE (kd, xa, xb) = true) := Lib.hid (mayE_iff.2 (by dsimp only; omega))
                  have r1a : decide ((0 : Int) ≤ kd) = true := decide_eq_true (by omega)
                  have r1b : decide (kd ≤ 7) = true := decide_eq_true (by omega)
                  have r1 : (decide ((0 : Int) ≤ kd) && decide (kd ≤ 7)) = true := by rw [r1a, r1b]; rfl
                  clear r1a r1b
                  have r2a : decide ((0 : Int) ≤ xa) = true := decide_eq_true (by omega)
                  have r2b : decide (xa ≤ 255) = true := decide_eq_true (by omega)
                  have r2 : (decide ((0 : Int) ≤ xa) && decide (xa ≤ 255)) = true := by rw [r2a, r2b]; rfl
                  clear r2a r2b
                  have r3a : decide ((0 : Int) ≤ xb) = true := decide_eq_true (by omega)
                  have r3b : decide (xb ≤ 255) = true := decide_eq_true (by omega)
                  have r3 : (decide ((0 : Int) ≤ xb) && decide (xb ≤ 255)) = true := by rw [r3a, r3b]; rfl
                  clear r3a r3b
                  have HR1 := Lib.hid r1
                  have HR2 := Lib.hid r2
                  have HR3 := Lib.hid r3
                  clear r1 r2 r3
                  have tb : (xb == 0) = false ∧ (xb != 0) = true := by constructor <;> (simp; omega)
                  obtain ⟨tb, tbn⟩ := tb
                  have t1 : (kd == 1) = false ∧ (kd != 1) = true := by constructor <;> (simp; omega)
                  obtain ⟨t1, t1n⟩ := t1
                  have t4 : (kd == 4) = true ∧ (kd != 4) = false := by constructor <;> (simp; omega)
                  obtain ⟨t4, t4n⟩ := t4
                  have ta : (xa == 0) = false ∧ (xa != 0) = true := by constructor <;> (simp; omega)
                  obtain ⟨ta, tan⟩ := ta
                  have t7 : (kd == 7) = false ∧ (kd != 7) = true := by constructor <;> (simp; omega)
                  obtain ⟨t7, t7n⟩ := t7
                  clear h1 h2 h3 a0 k7 b0 k1 k4
                  rw [show mayE (kd, xa, xb) = true from HM.out]
                  obtain ⟨kb, hb0⟩ := lay1 w #[.int .i64 kd, .int .i64 xa, .int .i64 xb] 45
                  obtain ⟨V, hV⟩ : ∃ V, w.alloc (.cells #[.int .i64 kd, .int .i64 xa, .int .i64 xb] 45) = V := ⟨_, rfl⟩
                  rw [hV] at hb0 kb
                  have HV := Lib.hid hV
                  have BB := Lib.hid hb0
                  have KE := Lib.hid kb
                  clear hV hb0 kb
                  go_enter Try.func38, Try.ntmps38
                  go_upto_region 1 with fail
                  rw [HV.out]
                  clear HV
                  obtain ⟨q0, q1, q2⟩ := KE.out.c3e
                  have lE := KE.out.lt
                  go_wp2_with fail
                  refine (within_en kd 0 7 _).mono ?_
                  rw [HR1.out]
                  try dsimp only [Bool.and_true, Bool.true_and, Bool.and_false, Bool.false_and]
                  rintro e u1 ⟨rfl, hw⟩
                  have hw2 := hw.symm
                  subst hw2
                  clear hw
                  go_wp2_with fail
                  refine (within_en xa 0 255 _).mono ?_
                  rw [HR2.out]
                  try dsimp only [Bool.and_true, Bool.true_and, Bool.and_false, Bool.false_and]
                  rintro e u1 ⟨rfl, hw⟩
                  have hw2 := hw.symm
                  subst hw2
                  clear hw
                  go_wp2_with fail
                  refine (within_en xb 0 255 _).mono ?_
                  rw [HR3.out]
                  try dsimp only [Bool.and_true, Bool.true_and, Bool.and_false, Bool.false_and]
                  rintro e u1 ⟨rfl, hw⟩
                  have hw2 := hw.symm
                  subst hw2
                  clear hw
                  go_wp2_with fail
                  go_ret
                  exact ⟨rfl, BB.out⟩
            · have HM : Hid (mayE (kd, xa, xb) = false) := Lib.hid (by cases e : mayE (kd, xa, xb) with | false => rfl | true => have q := mayE_iff.1 e; dsimp only at q; omega)
              have r1a : decide ((0 : Int) ≤ kd) = true := decide_eq_true (by omega)
              have r1b : decide (kd ≤ 7) = true := decide_eq_true (by omega)
              have r1 : (decide ((0 : Int) ≤ kd) && decide (kd ≤ 7)) = true := by rw [r1a, r1b]; rfl
              clear r1a r1b
              have r2a : decide ((0 : Int) ≤ xa) = true := decide_eq_true (by omega)
              have r2b : decide (xa ≤ 255) = true := decide_eq_true (by omega)
              have r2 : (decide ((0 : Int) ≤ xa) && decide (xa ≤ 255)) = true := by rw [r2a, r2b]; rfl
              clear r2a r2b
              have r3a : decide ((0 : Int) ≤ xb) = true := decide_eq_true (by omega)
              have r3b : decide (xb ≤ 255) = true := decide_eq_true (by omega)
              have r3 : (decide ((0 : Int) ≤ xb) && decide (xb ≤ 255)) = true := by rw [r3a, r3b]; rfl
              clear r3a r3b
              have HR1 := Lib.hid r1
              have HR2 := Lib.hid r2
              have HR3 := Lib.hid r3
              clear r1 r2 r3
              have tb : (xb == 0) = false ∧ (xb != 0) = true := by constructor <;> (simp; omega)
              obtain ⟨tb, tbn⟩ := tb
              have t1 : (kd == 1) = false ∧ (kd != 1) = true := by constructor <;> (simp; omega)
              obtain ⟨t1, t1n⟩ := t1
              have t4 : (kd == 4) = false ∧ (kd != 4) = true := by constructor <;> (simp; omega)
              obtain ⟨t4, t4n⟩ := t4
              clear h1 h2 h3 b0 k1 k4
              rw [show mayE (kd, xa, xb) = false from HM.out]
              obtain ⟨kb, hb0⟩ := lay1 w #[.int .i64 kd, .int .i64 xa, .int .i64 xb] 45
              obtain ⟨V, hV⟩ : ∃ V, w.alloc (.cells #[.int .i64 kd, .int .i64 xa, .int .i64 xb] 45) = V := ⟨_, rfl⟩
              rw [hV] at hb0 kb
              have HV := Lib.hid hV
              have BB := Lib.hid hb0
              have KE := Lib.hid kb
              clear hV hb0 kb
              go_enter Try.func38, Try.ntmps38
              go_upto_region 1 with fail
              rw [HV.out]
              clear HV
              obtain ⟨q0, q1, q2⟩ := KE.out.c3e
              have lE := KE.out.lt
              go_wp2_with fail
              refine (within_en kd 0 7 _).mono ?_
              rw [HR1.out]
              try dsimp only [Bool.and_true, Bool.true_and, Bool.and_false, Bool.false_and]
              rintro e u1 ⟨rfl, hw⟩
              have hw2 := hw.symm
              subst hw2
              clear hw
              go_wp2_with fail
              refine (within_en xa 0 255 _).mono ?_
              rw [HR2.out]
              try dsimp only [Bool.and_true, Bool.true_and, Bool.and_false, Bool.false_and]
              rintro e u1 ⟨rfl, hw⟩
              have hw2 := hw.symm
              subst hw2
              clear hw
              go_wp2_with fail
              refine (within_en xb 0 255 _).mono ?_
              rw [HR3.out]
              try dsimp only [Bool.and_true, Bool.true_and, Bool.and_false, Bool.false_and]
              rintro e u1 ⟨rfl, hw⟩
              have hw2 := hw.symm
              subst hw2
              clear hw
              go_wp2_with fail
              go_ret
              exact ⟨rfl, BB.out⟩
      · have HM : Hid (mayE (kd, xa, xb) = false) := Lib.hid (by cases e : mayE (kd, xa, xb) with | false => rfl | true => have q := mayE_iff.1 e; dsimp only at q; omega)
        have r1a : decide ((0 : Int) ≤ kd) = true := decide_eq_true (by omega)
        have r1b : decide (kd ≤ 7) = true := decide_eq_true (by omega)
        have r1 : (decide ((0 : Int) ≤ kd) && decide (kd ≤ 7)) = true := by rw [r1a, r1b]; rfl
        clear r1a r1b
        have r2a : decide ((0 : Int) ≤ xa) = true := decide_eq_true (by omega)
        have r2b : decide (xa ≤ 255) = true := decide_eq_true (by omega)
        have r2 : (decide ((0 : Int) ≤ xa) && decide (xa ≤ 255)) = true := by rw [r2a, r2b]; rfl
        clear r2a r2b
        have r3 : (decide ((0 : Int) ≤ xb) && decide (xb ≤ 255)) = false := by simp; omega
        have HR1 := Lib.hid r1
        have HR2 := Lib.hid r2
        have HR3 := Lib.hid r3
        clear r1 r2 r3
        clear h1 h2 h3
        rw [show mayE (kd, xa, xb) = false from HM.out]
        obtain ⟨kb, hb0⟩ := lay1 w #[.int .i64 kd, .int .i64 xa, .int .i64 xb] 45
        obtain ⟨V, hV⟩ : ∃ V, w.alloc (.cells #[.int .i64 kd, .int .i64 xa, .int .i64 xb] 45) = V := ⟨_, rfl⟩
        rw [hV] at hb0 kb
        have HV := Lib.hid hV
        have BB := Lib.hid hb0
        have KE := Lib.hid kb
        clear hV hb0 kb
        go_enter Try.func38, Try.ntmps38
        go_upto_region 1 with fail
        rw [HV.out]
        clear HV
        obtain ⟨q0, q1, q2⟩ := KE.out.c3e
        have lE := KE.out.lt
        go_wp2_with fail
        refine (within_en kd 0 7 _).mono ?_
        rw [HR1.out]
        try dsimp only [Bool.and_true, Bool.true_and, Bool.and_false, Bool.false_and]
        rintro e u1 ⟨rfl, hw⟩
        have hw2 := hw.symm
        subst hw2
        clear hw
        go_wp2_with fail
        refine (within_en xa 0 255 _).mono ?_
        rw [HR2.out]
        try dsimp only [Bool.and_true, Bool.true_and, Bool.and_false, Bool.false_and]
        rintro e u1 ⟨rfl, hw⟩
        have hw2 := hw.symm
        subst hw2
        clear hw
        go_wp2_with fail
        refine (within_en xb 0 255 _).mono ?_
        rw [HR3.out]
        try dsimp only [Bool.and_true, Bool.true_and, Bool.and_false, Bool.false_and]
        rintro e u1 ⟨rfl, hw⟩
        have hw2 := hw.symm
        subst hw2
        clear hw
        go_wp2_with fail
        go_ret
        exact ⟨rfl, BB.out⟩
    · have HM : Hid (mayE (kd, xa, xb) = false) := Lib.hid (by cases e : mayE (kd, xa, xb) with | false => rfl | true => have q := mayE_iff.1 e; dsimp only at q; omega)
      have r1a : decide ((0 : Int) ≤ kd) = true := decide_eq_true (by omega)
      have r1b : decide (kd ≤ 7) = true := decide_eq_true (by omega)
      have r1 : (decide ((0 : Int) ≤ kd) && decide (kd ≤ 7)) = true := by rw [r1a, r1b]; rfl
      clear r1a r1b
      have r2 : (decide ((0 : Int) ≤ xa) && decide (xa ≤ 255)) = false := by simp; omega
      have HR1 := Lib.hid r1
      have HR2 := Lib.hid r2
      clear r1 r2
      clear h1 h2
      rw [show mayE (kd, xa, xb) = false from HM.out]
      obtain ⟨kb, hb0⟩ := lay1 w #[.int .i64 kd, .int .i64 xa, .int .i64 xb] 45
      obtain ⟨V, hV⟩ : ∃ V, w.alloc (.cells #[.int .i64 kd, .int .i64 xa, .int .i64 xb] 45) = V := ⟨_, rfl⟩
      rw [hV] at hb0 kb
      have HV := Lib.hid hV
      have BB := Lib.hid hb0
      have KE := Lib.hid kb
      clear hV hb0 kb
      go_enter Try.func38, Try.ntmps38
      go_upto_region 1 with fail
      rw [HV.out]
      clear HV
      obtain ⟨q0, q1, q2⟩ := KE.out.c3e
      have lE := KE.out.lt
      go_wp2_with fail
      refine (within_en kd 0 7 _).mono ?_
      rw [HR1.out]
      try dsimp only [Bool.and_true, Bool.true_and, Bool.and_false, Bool.false_and]
      rintro e u1 ⟨rfl, hw⟩
      have hw2 := hw.symm
      subst hw2
      clear hw
      go_wp2_with fail
      refine (within_en xa 0 255 _).mono ?_
      rw [HR2.out]
      try dsimp only [Bool.and_true, Bool.true_and, Bool.and_false, Bool.false_and]
      rintro e u1 ⟨rfl, hw⟩
      have hw2 := hw.symm
      subst hw2
      clear hw
      go_wp2_with fail
      go_ret
      exact ⟨rfl, BB.out⟩
  · have HM : Hid (mayE (kd, xa, xb) = false) := Lib.hid (by cases e : mayE (kd, xa, xb) with | false => rfl | true => have q := mayE_iff.1 e; dsimp only at q; omega)
    have r1 : (decide ((0 : Int) ≤ kd) && decide (kd ≤ 7)) = false := by simp; omega
    have HR1 := Lib.hid r1
    clear r1
    clear h1
    rw [show mayE (kd, xa, xb) = false from HM.out]
    obtain ⟨kb, hb0⟩ := lay1 w #[.int .i64 kd, .int .i64 xa, .int .i64 xb] 45
    obtain ⟨V, hV⟩ : ∃ V, w.alloc (.cells #[.int .i64 kd, .int .i64 xa, .int .i64 xb] 45) = V := ⟨_, rfl⟩
    rw [hV] at hb0 kb
    have HV := Lib.hid hV
    have BB := Lib.hid hb0
    have KE := Lib.hid kb
    clear hV hb0 kb
    go_enter Try.func38, Try.ntmps38
    go_upto_region 1 with fail
    rw [HV.out]
    clear HV
    obtain ⟨q0, q1, q2⟩ := KE.out.c3e
    have lE := KE.out.lt
    go_wp2_with fail
    refine (within_en kd 0 7 _).mono ?_
    rw [HR1.out]
    try dsimp only [Bool.and_true, Bool.true_and, Bool.and_false, Bool.false_and]
    rintro e u1 ⟨rfl, hw⟩
    have hw2 := hw.symm
    subst hw2
    clear hw
    go_wp2_with fail
    go_ret
    exact ⟨rfl, BB.out⟩

set_option maxHeartbeats 1000000 in
theorem only_en (A : Option Addr) (n c : Nat) (l : List I3) (q : Int) (w : World) (hn : n * 24 ≤ 140737488351232) (hp : Prog w A n c l) :
    Calls Try.prog 21 #[.slice A n c, .int .i64 q] w (NewEn (onlyE l q) w) := by
  have HP := Lib.hid hp
  have LX := Lib.hid hp.1
  have hnc := hp.2.1
  clear hp
  go_enter Try.func21, Try.ntmps21
  go_wp2_with fail
  go_loopw [5, 10] (fun u t wr => ∃ (k : Nat) (D : Option Addr) (d : Nat), k ≤ n ∧ t = .int .i64 k ∧ u = .slice D (onlyE (l.take k) q).length d ∧ Hid (Below w.heap.size w wr) ∧ Hid (OwnP 45 wr w.heap.size D d (onlyE (l.take k) q))) (fun _ t _ => n - (intOf t).toNat)
  case atStart => exact ⟨0, none, 0, Nat.zero_le _, rfl, rfl, Lib.hid (Below.refl _ _), Lib.hid (OwnP.nil_ _ _ _)⟩
  case round =>
    rename World => wr
    obtain ⟨k, D, d, hk, rfl, rfl, BB, OD⟩ := hrel
    by_cases hkn : k < n
    · obtain ⟨b, o, rfl, hb, c0, c1, c2⟩ := (HP.out.below BB.out).at_ hkn
      obtain ⟨f0, f1, f2⟩ := HP.out.fit hkn
      have hkl : k < l.length := by rw [LX.out]; exact hkn
      have hnx := onlyE_next hkl q
      obtain ⟨⟨x, y, z⟩, hz⟩ : ∃ e, ith l k = e := ⟨_, rfl⟩
      have ex : jO l k = x := by unfold jO; rw [hz]
      have ey : jA l k = y := by unfold jA; rw [hz]
      have ez : jB l k = z := by unfold jB; rw [hz]
      rw [ex] at c0 f0
      rw [ey] at c1 f1
      rw [ez] at c2 f2
      rw [hz] at hnx
      dsimp only at hnx
      clear ex ey ez hz
      have FX : Hid (FitI (x, y, z)) := Lib.hid ⟨f0, f1, f2⟩
      have kt := Bk.new wr 45 #[.int .i64 x, .int .i64 y, .int .i64 z]
      have ba := (Below.refl wr.heap.size wr).alloc (Nat.le_refl _) (.cells #[.int .i64 x, .int .i64 y, .int .i64 z] 45)
      have hle : (onlyE (l.take k) q).length ≤ k := Nat.le_trans (onlyE_len _ _) (by rw [List.length_take]; exact Nat.min_le_left _ _)
      obtain ⟨v, hv⟩ : ∃ v, onlyE (l.take k) q = v := ⟨_, rfl⟩
      rw [hv] at hnx hle OD ⊢
      have B2 := Lib.hid (below3 BB.out ba)
      replace OD := Lib.hid (OD.out.below ba)
      obtain ⟨W, hW⟩ : ∃ W, wr.alloc (.cells #[.int .i64 x, .int .i64 y, .int .i64 z] 45) = W := ⟨_, rfl⟩
      obtain ⟨g, hg⟩ : ∃ g, wr.heap.size = g := ⟨_, rfl⟩
      rw [hW] at kt B2 OD
      rw [hg] at kt
      have HW := Lib.hid hW
      have HG := Lib.hid hg
      have KV := Lib.hid kt
      clear hW hg kt ba hv f0 f1 f2
      by_cases he : x = q
      · rw [if_pos he] at hnx
        have t0 : (x == q) = true := by simpa using he
        have HN := Lib.hid hnx
        clear he hnx
        go_upto_region 5 with fail
        rw [HW.out, HG.out]
        clear HW HG c0 c1 c2
        obtain ⟨q0, q1, q2⟩ := KV.out.c3e
        have lq := KV.out.lt
        have bl := Lib.hid ((Below.refl W.heap.size W).alloc (Nat.le_refl _) (.cells #[.int .i64 x, .int .i64 y, .int .i64 z] 45))
        go_wp2_with (at_builtin; refine wpList_append_prog _ rfl _ _ 31 rfl 45 _ rfl Try.underlying31 Try.enInfo w.heap.size D d v v.length rfl rfl (OD.out.below bl.out) (some ⟨W.heap.size, 0, none⟩) 1 1 [(x, y, z)] rfl (prog1_en W 45 FX.out) (by omega) (Nat.le_trans B2.out.size bl.out.size) ?_; intro D1 d1 w1 ho hg; have HO := Lib.hid ho; have HB := Lib.hid ((below3 B2.out bl.out).grown hg (Nat.le_trans B2.out.size bl.out.size) (OD.out.blockE)); clear ho hg)
        go_roundw
        case rel => exact ⟨k + 1, D1, d1, by omega, by go_num, by rw [HN.out]; simp, HB, by rw [HN.out]; exact HO⟩
        case measure => simp [intOf]; omega
      · rw [if_neg he] at hnx
        have t0 : (x == q) = false := by simpa using he
        have HN := Lib.hid hnx
        clear he hnx
        go_upto_region 5 with fail
        rw [HW.out, HG.out]
        clear HW HG c0 c1 c2
        obtain ⟨q0, q1, q2⟩ := KV.out.c3e
        have lq := KV.out.lt
        go_wp2_with fail
        go_roundw
        case rel => exact ⟨k + 1, D, d, by omega, by go_num, by rw [HN.out], B2, by rw [HN.out]; exact OD⟩
        case measure => simp [intOf]; omega
    · have HE : Hid (onlyE (l.take k) q = onlyE l q) := Lib.hid (by rw [List.take_of_length_le (by have := LX.out; omega)])
      go_wp2_with fail
      go_ret
      exact ⟨D, d, by rw [← HE.out]; rfl, by rw [← HE.out]; exact OD.out, BB.out⟩


theorem bad_en (x : I3) (w : World) :
    Calls Try.prog 44 #[.agg #[.int .i64 x.1, .int .i64 x.2.1, .int .i64 x.2.2]] w (RetB (.bool (!mayE x)) w) := by
  obtain ⟨a, b, c⟩ := x
  dsimp only
  have kt := Bk.new w 45 #[.int .i64 a, .int .i64 b, .int .i64 c]
  have ba := Lib.hid ((Below.refl w.heap.size w).alloc (Nat.le_refl _) (.cells #[.int .i64 a, .int .i64 b, .int .i64 c] 45))
  obtain ⟨W, hW⟩ : ∃ W, w.alloc (.cells #[.int .i64 a, .int .i64 b, .int .i64 c] 45) = W := ⟨_, rfl⟩
  rw [hW] at kt ba
  have HW := Lib.hid hW
  have KE := Lib.hid kt
  clear hW kt
  go_enter Try.func44, Try.ntmps44
  go_upto_region 1 with fail
  rw [HW.out]
  clear HW
  obtain ⟨q0, q1, q2⟩ := KE.out.c3e
  have lE := KE.out.lt
  go_wp2_with fail
  refine (may_en (a, b, c) _).mono ?_
  rintro e U ⟨rfl, bU⟩
  have B2 := Lib.hid (below3 ba.out bU)
  clear bU q0 q1 q2 lE
  obtain ⟨v, hv⟩ : ∃ v, mayE (a, b, c) = v := ⟨_, rfl⟩
  rw [hv]
  have HV := Lib.hid hv
  clear hv
  go_wp2_with fail
  go_ret
  exact ⟨by rw [HV.out]; rfl, B2.out⟩

/-- An entry may not be. -/
def badE (l : List I3) (j : Nat) : Bool := !mayE (ith l j)

set_option maxHeartbeats 1000000 in
theorem index_en (A : Option Addr) (n c : Nat) (p : List I3) (w : World) (hp : Prog w A n c p) :
    Calls Try.prog 61 #[.slice A n c, .func (.func 44) #[] #[]] w (FirstIs (badE p) n w) := by
  have HP := Lib.hid hp
  have hn := Nat.le_trans hp.2.1.1 hp.2.1.2
  clear hp
  go_enter Try.func61, Try.ntmps61
  go_wp2
  go_loopw [8] (fun t wr => FindRel (badE p) n w t wr) (fun t _ => n - (intOf t).toNat)
  case atStart => exact ⟨0, Nat.zero_le _, rfl, fun j hj => absurd hj (by omega), Below.refl _ _⟩
  case round =>
    obtain ⟨k, hk, rfl, hq, hb⟩ := hrel
    have HQ := Lib.hid hq
    have HB := Lib.hid hb
    clear hq hb
    by_cases hlt : k < n
    · obtain ⟨b, o, rfl, hbl, h0, h1, h2⟩ := (HP.out.below HB.out).at_ hlt
      obtain ⟨⟨x, y, z⟩, hz⟩ : ∃ e, ith p k = e := ⟨_, rfl⟩
      rw [show jO p k = x by unfold jO; rw [hz]] at h0
      rw [show jA p k = y by unfold jA; rw [hz]] at h1
      rw [show jB p k = z by unfold jB; rw [hz]] at h2
      have HZ := Lib.hid hz
      clear hz
      go_wp2_with fail
      refine (bad_en (x, y, z) _).mono ?_
      rintro e w1 ⟨rfl, hb1⟩
      have HB1 := Lib.hid (below3 HB.out hb1)
      clear hb1
      cases hx : mayE (x, y, z)
      · have HX : Hid (badE p k = true) := Lib.hid (by unfold badE; rw [HZ.out, hx]; rfl)
        clear hx
        go_wp2
        go_ret
        exact ⟨k, rfl, .inr ⟨k, hlt, rfl, HX.out, HQ.out⟩, HB1.out⟩
      · have HX : Hid (badE p k = false) := Lib.hid (by unfold badE; rw [HZ.out, hx]; rfl)
        clear hx
        go_wp2
        go_roundw
        case rel => exact ⟨k + 1, by omega, by go_num, fun j hj => (by
          rcases Nat.lt_or_ge j k with h | h
          · exact HQ.out j h
          · obtain rfl : j = k := by omega
            exact HX.out), HB1.out⟩
        case measure => simp [intOf]; omega
    · go_wp2
      go_ret
      exact ⟨-1, rfl, .inl ⟨rfl, fun j hj => HQ.out j (by omega)⟩, HB.out⟩

theorem contains_en (A : Option Addr) (n c : Nat) (p : List I3) (w : World) (hp : Prog w A n c p) :
    Calls Try.prog 43 #[.slice A n c, .func (.func 44) #[] #[]] w (SomeIs (badE p) n w) := by
  go_enter Try.func43, Try.ntmps43
  go_wp2_with fail
  refine (index_en A n c p w hp).mono ?_
  rintro e w1 ⟨r, rfl, hr, hb1⟩
  have HR := Lib.hid hr
  have HB := Lib.hid hb1
  clear hr hb1
  go_wp2
  go_ret
  refine ⟨decide (0 ≤ r), rfl, fun h => ?_, fun h => ?_, HB.out⟩
  · have h := of_decide_eq_true h
    rcases HR.out with ⟨h1, _⟩ | ⟨k, hk, h1, h2, _⟩
    · omega
    · exact ⟨k, hk, h2⟩
  · have h := of_decide_eq_false h
    rcases HR.out with ⟨_, h1⟩ | ⟨k, hk, h1, h2, _⟩
    · exact h1
    · omega

set_option maxHeartbeats 1000000 in
theorem check_en (A : Option Addr) (n c : Nat) (l : List I3) (w : World) (hp : Prog w A n c l) :
    Calls Try.prog 23 #[.slice A n c] w (RetB (.int .i64 (chkE19 l)) w) := by
  have LX := Lib.hid hp.1
  have HC := Lib.hid (contains_en A n c l w hp)
  have hnc := hp.2.1
  clear hp
  by_cases h : 65536 < n
  · have HR : Hid (chkE19 l = 3) := Lib.hid (chkE19_long (by rw [LX.out]; exact h))
    rw [HR.out]
    go_enter Try.func23, Try.ntmps23
    go_wp2_with fail
    go_ret
    exact ⟨rfl, Below.refl _ _⟩
  · have HH : Hid (¬ 65536 < l.length) := Lib.hid (by rw [LX.out]; exact h)
    go_enter Try.func23, Try.ntmps23
    go_wp2_with fail
    refine HC.out.mono ?_
    rintro e U ⟨r, rfl, h1, h2, bU⟩
    have BB := Lib.hid bU
    have H1 := Lib.hid h1
    have H2 := Lib.hid h2
    clear bU HC h1 h2
    cases r
    · have HR : Hid (chkE19 l = 0) := Lib.hid (chkE19_ok HH.out (fun j hj => by have := H2.out rfl j (by have := LX.out; omega); unfold badE at this; simpa using this))
      go_wp2_with fail
      go_ret
      exact ⟨by rw [HR.out]; rfl, BB.out⟩
    · have HR : Hid (chkE19 l = 1) := Lib.hid (by
        obtain ⟨k, hk, hb⟩ := H1.out rfl
        refine chkE19_no HH.out (fun q => ?_)
        have := q k (by have := LX.out; omega)
        unfold badE at hb
        rw [this] at hb
        cases hb)
      go_wp2_with fail
      go_ret
      exact ⟨by rw [HR.out]; rfl, BB.out⟩

set_option maxHeartbeats 4000000 in
theorem write_en (A : Option Addr) (n c : Nat) (l : List I3) (w : World) (hp : Prog w A n c l) :
    Calls Try.prog 14 #[.slice A n c] w (WriteP (wrR l) w) := by
  have HP := Lib.hid hp
  have LX := Lib.hid hp.1
  have hnc := hp.2.1
  have HC := Lib.hid (check_en A n c l w hp)
  clear hp
  by_cases h : chkE19 l = 0
  · rw [wrR_ok h]
    have HE := Lib.hid h
    have HALL := Lib.hid (chkE19_zero h).2
    have hn6 : n ≤ 65536 := by have := (chkE19_zero h).1; have := LX.out; omega
    clear h
    go_enter Try.func14, Try.ntmps14
    go_wp2_with fail
    refine HC.out.mono ?_
    rw [HE.out]
    rintro e U ⟨rfl, bU⟩
    have BB := Lib.hid bU
    clear bU HC
    obtain ⟨i0, hi, hz0, hz1, hz2⟩ := info_parts Try.octInfoE
    have HI := Lib.hid hi
    have HZ0 := Lib.hid hz0
    have HZ1 := Lib.hid hz1
    have HZ2 := Lib.hid hz2
    clear hi hz0 hz1 hz2
    go_wp2_with (at_make; refine wpList_make_own _ rfl _ _ 32 rfl U.heap.size 5 i0 (.int .u8 0) 1 Try.underlying32 HI.out HZ0.out HZ1.out .i64 .i64 _ (3 * n) rfl rfl (by go_num) (by rw [HZ2.out]; omega) (by unfold maxLen; omega) (Nat.le_refl _) ?_; intro w1 hown hgr; have OD0 : Hid (OwnO 5 w1 w.heap.size (some ⟨U.heap.size, 0, none⟩) (3 * n) []) := Lib.hid (OwnO.base ⟨by simp, by simp, hown⟩ BB.out.size); have BB1 := Lib.hid (BB.out.grown hgr BB.out.size (fun _ q => by cases q)); clear hown hgr)
    clear BB
    go_loopw [5, 19] (fun u t wr => ∃ (k : Nat) (D : Option Addr) (d : Nat), k ≤ n ∧ t = .int .i64 k ∧ u = .slice D (txE (l.take k)).length d ∧ Hid (Below w.heap.size w wr) ∧ Hid (OwnO 5 wr w.heap.size D d (txE (l.take k)))) (fun _ t _ => n - (intOf t).toNat)
    case atStart => exact ⟨0, _, _, Nat.zero_le _, rfl, rfl, BB1, OD0⟩
    case round =>
      clear BB1 OD0
      rename World => wr
      obtain ⟨k, D, d, hk, rfl, rfl, BB, OD⟩ := hrel
      by_cases hkn : k < n
      · obtain ⟨b, o, rfl, hb, c0, c1, c2⟩ := (HP.out.below BB.out).at_ hkn
        have hkl : k < l.length := by rw [LX.out]; exact hkn
        have hnx := txE_next hkl
        have hmy := HALL.out k hkl
        obtain ⟨⟨kd, xa, xb⟩, hz⟩ : ∃ e, ith l k = e := ⟨_, rfl⟩
        rw [show jO l k = kd by unfold jO; rw [hz]] at c0
        rw [show jA l k = xa by unfold jA; rw [hz]] at c1
        rw [show jB l k = xb by unfold jB; rw [hz]] at c2
        rw [hz] at hnx hmy
        dsimp only at hnx
        obtain ⟨⟨m1, m2⟩, ⟨m3, m4⟩, ⟨m5, m6⟩, -, -⟩ := mayE_iff.1 hmy
        dsimp only at m1 m2 m3 m4 m5 m6
        have hle : (txE (l.take k)).length = 3 * k := by rw [txE_len, List.length_take]; omega
        obtain ⟨v, hv⟩ : ∃ v, txE (l.take k) = v := ⟨_, rfl⟩
        rw [hv] at hnx hle OD ⊢
        have HNX := Lib.hid hnx
        have HLE := Lib.hid hle
        have o1 : Oct kd := by unfold Oct; omega
        have o2 : Oct xa := by unfold Oct; omega
        have o3 : Oct xb := by unfold Oct; omega
        have HO3 := Lib.hid (And.intro o1 (And.intro o2 o3))
        clear hz hmy hnx hle hv hkl
        have kt := Bk.new wr 45 #[.int .i64 kd, .int .i64 xa, .int .i64 xb]
        have ba := (Below.refl wr.heap.size wr).alloc (Nat.le_refl _) (.cells #[.int .i64 kd, .int .i64 xa, .int .i64 xb] 45)
        have B2 := Lib.hid (below3 BB.out ba)
        replace OD := Lib.hid (OD.out.below ba)
        obtain ⟨W, hW⟩ : ∃ W, wr.alloc (.cells #[.int .i64 kd, .int .i64 xa, .int .i64 xb] 45) = W := ⟨_, rfl⟩
        obtain ⟨g, hg⟩ : ∃ g, wr.heap.size = g := ⟨_, rfl⟩
        rw [hW] at kt B2 OD
        rw [hg] at kt
        have HW := Lib.hid hW
        have HG := Lib.hid hg
        have KE := Lib.hid kt
        clear hW hg kt ba
        go_upto_region 8 with fail
        rw [HW.out, HG.out]
        clear HW HG c0 c1 c2 hb
        obtain ⟨q0, q1, q2⟩ := KE.out.c3e
        have lE := KE.out.lt
        have w1 : IntKind.u8.wrap kd = kd := by rw [IntKind.wrap_u8]; omega
        have w2 : IntKind.u8.wrap xa = xa := by rw [IntKind.wrap_u8]; omega
        have w3 : IntKind.u8.wrap xb = xb := by rw [IntKind.wrap_u8]; omega
        clear m1 m2 m3 m4 m5 m6 o1 o2 o3
        have bl := Lib.hid ((Below.refl W.heap.size W).alloc (Nat.le_refl _) (.cells #[.int .u8 kd, .int .u8 xa, .int .u8 xb] 5))
        have kk := Lib.hid (octs3_en (Bk.new W 5 #[.int .u8 kd, .int .u8 xa, .int .u8 xb]) HO3.out.1 HO3.out.2.1 HO3.out.2.2)
        go_wp2_with (at_builtin; refine wpList_append_octs _ rfl _ _ 32 rfl 5 Try.underlying32 Try.octInfoE w.heap.size D d v v.length rfl rfl (OD.out.below bl.out) (some ⟨W.heap.size, 0, none⟩) 3 3 [kd, xa, xb] rfl kk.out (by have := HLE.out; omega) (Nat.le_trans B2.out.size bl.out.size) ?_; intro D1 d1 w1 ho hg; have HO := Lib.hid ho; have HB := Lib.hid ((below3 B2.out bl.out).grown hg (Nat.le_trans B2.out.size bl.out.size) (OD.out.block)); clear ho hg)
        go_roundw
        case rel => exact ⟨k + 1, D1, d1, by omega, by go_num, by rw [HNX.out]; simp, HB, by rw [HNX.out]; exact HO⟩
        case measure => simp [intOf]; omega
      · have HE2 : Hid (txE (l.take k) = txE l) := Lib.hid (by rw [List.take_of_length_le (by have := LX.out; omega)])
        rw [HE2.out] at OD ⊢
        go_wp2_with fail
        exact bodyPost_ret (results_tmp2 rfl _ _ _) rfl (by exact ⟨D, d, rfl, OD.out, BB.out⟩)
  · rw [wrR_no h]
    obtain ⟨er, her⟩ : ∃ e, chkE19 l = e := ⟨_, rfl⟩
    rw [her] at h ⊢
    have HE := Lib.hid her
    have t0 : (er != 0) = true := by simpa using h
    clear h her
    go_enter Try.func14, Try.ntmps14
    go_wp2_with fail
    refine HC.out.mono ?_
    rw [HE.out]
    rintro e U ⟨rfl, bU⟩
    have BB := Lib.hid bU
    clear bU HC
    go_wp2_with fail
    exact bodyPost_ret (results_tmp2 rfl _ _ _) rfl (by exact ⟨none, 0, rfl, OwnO.nil_ _ _ _, BB.out⟩)


end Go.Proofs.Ytpfnoohcilefhaa

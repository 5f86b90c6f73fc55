/-
  Layer 19, the document: what may be, Check, Only, SameList.
-/
import Derived.Test.YtpfnoohcilefhaaEnw
import Derived.Test.YtpfnoohcilefhaaLies
import Derived.Test.YtpfnoohcilefhaaSame
import Derived.Test.YtpfnoohcilefhaaCalmX
import Derived.Test.YtpfnoohcilefhaaHr
import Derived.Deep.LoopGhost
import Derived.Deep.CutBlock
import Derived.Deep.QuietTactic
import Derived.BigQuiet
namespace Go.Proofs.Ytpfnoohcilefhaa
open Go.RowKit

theorem Try.enInfo : (Try.prog.info? 45).map (fun i => (i.zero, i.size, i.bytes)) = some (some (.agg #[.int .i64 0, .int .i64 0, .int .i64 0]), 3, 24) := by kernel_rfl
theorem Bk.c3e {w : World} {g : Nat} {t : TypeId} {c0 c1 c2 : Value} (h : Bk w g t #[c0, c1, c2]) : w.cell? ⟨g, 0, none⟩ = some c0 ∧ w.cell? ⟨g, 1, none⟩ = some c1 ∧ w.cell? ⟨g, 2, none⟩ = some c2 := ⟨h.cell 0, h.cell 1, h.cell 2⟩
theorem prog1_en (w : World) (E : TypeId) {x y z : Int} (h : FitI (x, y, z)) : Prog (w.alloc (.cells #[.int .i64 x, .int .i64 y, .int .i64 z] E)) (some ⟨w.heap.size, 0, none⟩) 1 1 [(x, y, z)] := by
  have hb := Bk.new w E #[.int .i64 x, .int .i64 y, .int .i64 z]
  obtain ⟨h0, h1, h2⟩ := hb.c3e
  refine ⟨rfl, by omega, fun q hq => by simp at hq; subst hq; exact h, fun _ => ⟨w.heap.size, 0, rfl, hb.lt, fun j hj => ?_⟩⟩
  obtain rfl : j = 0 := by omega
  exact ⟨h0, h1, h2⟩
theorem OwnP.capE {E : TypeId} {w : World} {base : Nat} {A : Option Addr} {c : Nat} {p : List I3} (h : OwnP E w base A c p) {w1 : World} (hb : Below w.heap.size w w1) : OwnP E w1 base A c p := h.below hb
theorem OwnP.blockE {E : TypeId} {w : World} {base : Nat} {A : Option Addr} {c : Nat} {p : List I3} (h : OwnP E w base A c p) {n d : Nat} : ∀ k, (Value.slice A n d).ownBlock = some k → base ≤ k := h.block
/-- New events are handed back. -/
def NewEn (l : List I3) (w : World) (e : Ending) (w' : World) : Prop := ∃ A c, e = .returned (.slice A l.length c) ∧ OwnP 45 w' w.heap.size A c l ∧ Below w.heap.size w w'
theorem rinE_any (x a b : Int) (w : World) : Calls Try.prog 29 #[.int .i64 x, .int .i64 a, .int .i64 b] w fun e w' => e = .returned (.bool (decide (a ≤ x) && decide (x ≤ b))) ∧ w = w' := by
  by_cases h : a ≤ x
  · have h1 := decide_eq_true h
    rw [h1, Bool.true_and]
    clear h
    go_enter Try.func29, Try.ntmps29
    go_wp2_with fail
    go_ret
    exact ⟨rfl, rfl⟩
  · have h1 := decide_eq_false h
    rw [h1, Bool.false_and]
    clear h
    go_enter Try.func29, Try.ntmps29
    go_wp2_with fail
    go_ret
    exact ⟨rfl, rfl⟩

set_option maxHeartbeats 4000000 in
theorem rmayE_any (x : I3) (w : World) :
    Calls Try.prog 39 #[.agg #[.int .i64 x.1, .int .i64 x.2.1, .int .i64 x.2.2]] w (RetB (.bool (mayE x)) w) := by
  obtain ⟨kd, xa, xb⟩ := x
  dsimp only
  by_cases h1 : 0 ≤ kd ∧ kd ≤ 7
  · by_cases h2 : 0 ≤ xa ∧ xa ≤ 255
    · by_cases h3 : 0 ≤ xb ∧ xb ≤ 255
      · by_cases b0 : xb = 0
        · by_cases a0 : xa = 0
          · have HM : Hid (mayE (kd, xa, xb) = true) := Lib.hid (mayE_iff.2 (by dsimp only; omega))
            have r1a : decide ((0 : Int) ≤ kd) = true := decide_eq_true (by omega)
            have r1b : decide (kd ≤ 7) = true := decide_eq_true (by omega)
            have r1 : (decide ((0 : Int) ≤ kd) && decide (kd ≤ 7)) = true := by rw [r1a, r1b]; rfl
            clear r1a r1b
            have r2a : decide ((0 : Int) ≤ xa) = true := decide_eq_true (by omega)
            have r2b : decide (xa ≤ 255) = true := decide_eq_true (by omega)
            have r2 : (decide ((0 : Int) ≤ xa) && decide (xa ≤ 255)) = true := by rw [r2a, r2b]; rfl
            clear r2a r2b
            have r3a : decide ((0 : Int) ≤ xb) = true := decide_eq_true (by omega)
            have r3b : decide (xb ≤ 255) = true := decide_eq_true (by omega)
            have r3 : (decide ((0 : Int) ≤ xb) && decide (xb ≤ 255)) = true := by rw [r3a, r3b]; rfl
            clear r3a r3b
            have HR1 := Lib.hid r1
            have HR2 := Lib.hid r2
            have HR3 := Lib.hid r3
            clear r1 r2 r3
            have tb : (xb == 0) = true ∧ (xb != 0) = false := by constructor <;> (simp; omega)
            obtain ⟨tb, tbn⟩ := tb
            have ta : (xa == 0) = true ∧ (xa != 0) = false := by constructor <;> (simp; omega)
            obtain ⟨ta, tan⟩ := ta
            clear h1 h2 h3 a0 b0
            rw [show mayE (kd, xa, xb) = true from HM.out]
            obtain ⟨kb, hb0⟩ := lay1 w #[.int .i64 kd, .int .i64 xa, .int .i64 xb] 45
            obtain ⟨V, hV⟩ : ∃ V, w.alloc (.cells #[.int .i64 kd, .int .i64 xa, .int .i64 xb] 45) = V := ⟨_, rfl⟩
            rw [hV] at hb0 kb
            have HV := Lib.hid hV
            have BB := Lib.hid hb0
            have KE := Lib.hid kb
            clear hV hb0 kb
            go_enter Try.func39, Try.ntmps39
            go_upto_region 1 with fail
            rw [HV.out]
            clear HV
            obtain ⟨q0, q1, q2⟩ := KE.out.c3e
            have lE := KE.out.lt
            go_wp2_with fail
            refine (rinE_any kd 0 7 _).mono ?_
            rw [HR1.out]
            try dsimp only [Bool.and_true, Bool.true_and, Bool.and_false, Bool.false_and]
            rintro e u1 ⟨rfl, hw⟩
            have hw2 := hw.symm
            subst hw2
            clear hw
            go_wp2_with fail
            refine (rinE_any xa 0 255 _).mono ?_
            rw [HR2.out]
            try dsimp only [Bool.and_true, Bool.true_and, Bool.and_false, Bool.false_and]
            rintro e u1 ⟨rfl, hw⟩
            have hw2 := hw.symm
            subst hw2
            clear hw
            go_wp2_with fail
            refine (rinE_any xb 0 255 _).mono ?_
            rw [HR3.out]
            try dsimp only [Bool.and_true, Bool.true_and, Bool.and_false, Bool.false_and]
            rintro e u1 ⟨rfl, hw⟩
            have hw2 := hw.symm
            subst hw2
            clear hw
            go_wp2_with fail
            go_ret
            exact ⟨rfl, BB.out⟩
          · by_cases k7 : kd = 7
            · have HM : Hid (mayE (kd, xa, xb) = false) := Lib.hid (by cases e : mayE (kd, xa, xb) with | false => rfl | true => have q := mayE_iff.1 e; dsimp only at q; omega)
              have r1a : decide ((0 : Int) ≤ kd) = true := decide_eq_true (by omega)
              have r1b : decide (kd ≤ 7) = true := decide_eq_true (by omega)
              have r1 : (decide ((0 : Int) ≤ kd) && decide (kd ≤ 7)) = true := by rw [r1a, r1b]; rfl
              clear r1a r1b
              have r2a : decide ((0 : Int) ≤ xa) = true := decide_eq_true (by omega)
              have r2b : decide (xa ≤ 255) = true := decide_eq_true (by omega)
              have r2 : (decide ((0 : Int) ≤ xa) && decide (xa ≤ 255)) = true := by rw [r2a, r2b]; rfl
              clear r2a r2b
              have r3a : decide ((0 : Int) ≤ xb) = true := decide_eq_true (by omega)
              have r3b : decide (xb ≤ 255) = true := decide_eq_true (by omega)
              have r3 : (decide ((0 : Int) ≤ xb) && decide (xb ≤ 255)) = true := by rw [r3a, r3b]; rfl
              clear r3a r3b
              have HR1 := Lib.hid r1
              have HR2 := Lib.hid r2
              have HR3 := Lib.hid r3
              clear r1 r2 r3
              have tb : (xb == 0) = true ∧ (xb != 0) = false := by constructor <;> (simp; omega)
              obtain ⟨tb, tbn⟩ := tb
              have ta : (xa == 0) = false ∧ (xa != 0) = true := by constructor <;> (simp; omega)
              obtain ⟨ta, tan⟩ := ta
              have t7 : (kd == 7) = true ∧ (kd != 7) = false := by constructor <;> (simp; omega)
              obtain ⟨t7, t7n⟩ := t7
              clear h1 h2 h3 a0 k7 b0
              rw [show mayE (kd, xa, xb) = false from HM.out]
              obtain ⟨kb, hb0⟩ := lay1 w #[.int .i64 kd, .int .i64 xa, .int .i64 xb] 45
              obtain ⟨V, hV⟩ : ∃ V, w.alloc (.cells #[.int .i64 kd, .int .i64 xa, .int .i64 xb] 45) = V := ⟨_, rfl⟩
              rw [hV] at hb0 kb
              have HV := Lib.hid hV
              have BB := Lib.hid hb0
              have KE := Lib.hid kb
              clear hV hb0 kb
              go_enter Try.func39, Try.ntmps39
              go_upto_region 1 with fail
              rw [HV.out]
              clear HV
              obtain ⟨q0, q1, q2⟩ := KE.out.c3e
              have lE := KE.out.lt
              go_wp2_with fail
              refine (rinE_any kd 0 7 _).mono ?_
              rw [HR1.out]
              try dsimp only [Bool.and_true, Bool.true_and, Bool.and_false, Bool.false_and]
              rintro e u1 ⟨rfl, hw⟩
              have hw2 := hw.symm
              subst hw2
              clear hw
              go_wp2_with fail
              refine (rinE_any xa 0 255 _).mono ?_
              rw [HR2.out]
              try dsimp only [Bool.and_true, Bool.true_and, Bool.and_false, Bool.false_and]
              rintro e u1 ⟨rfl, hw⟩
              have hw2 := hw.symm
              subst hw2
              clear hw
              go_wp2_with fail
              refine (rinE_any xb 0 255 _).mono ?_
              rw [HR3.out]
              try dsimp only [Bool.and_true, Bool.true_and, Bool.and_false, Bool.false_and]
              rintro e u1 ⟨rfl, hw⟩
              have hw2 := hw.symm
              subst hw2
              clear hw
              go_wp2_with fail
              go_ret
              exact ⟨rfl, BB.out⟩
            · have HM : Hid (mayE (kd, xa, xb) = true) := Lib.hid (mayE_iff.2 (by dsimp only; omega))
              have r1a : decide ((0 : Int) ≤ kd) = true := decide_eq_true (by omega)
              have r1b : decide (kd ≤ 7) = true := decide_eq_true (by omega)
              have r1 : (decide ((0 : Int) ≤ kd) && decide (kd ≤ 7)) = true := by rw [r1a, r1b]; rfl
              clear r1a r1b
              have r2a : decide ((0 : Int) ≤ xa) = true := decide_eq_true (by omega)
              have r2b : decide (xa ≤ 255) = true := decide_eq_true (by omega)
              have r2 : (decide ((0 : Int) ≤ xa) && decide (xa ≤ 255)) = true := by rw [r2a, r2b]; rfl
              clear r2a r2b
              have r3a : decide ((0 : Int) ≤ xb) = true := decide_eq_true (by omega)
              have r3b : decide (xb ≤ 255) = true := decide_eq_true (by omega)
              have r3 : (decide ((0 : Int) ≤ xb) && decide (xb ≤ 255)) = true := by rw [r3a, r3b]; rfl
              clear r3a r3b
              have HR1 := Lib.hid r1
              have HR2 := Lib.hid r2
              have HR3 := Lib.hid r3
              clear r1 r2 r3
              have tb : (xb == 0) = true ∧ (xb != 0) = false := by constructor <;> (simp; omega)
              obtain ⟨tb, tbn⟩ := tb
              have ta : (xa == 0) = false ∧ (xa != 0) = true := by constructor <;> (simp; omega)
              obtain ⟨ta, tan⟩ := ta
              have t7 : (kd == 7) = false ∧ (kd != 7) = true := by constructor <;> (simp; omega)
              obtain ⟨t7, t7n⟩ := t7
              clear h1 h2 h3 a0 k7 b0
              rw [show mayE (kd, xa, xb) = true from HM.out]
              obtain ⟨kb, hb0⟩ := lay1 w #[.int .i64 kd, .int .i64 xa, .int .i64 xb] 45
              obtain ⟨V, hV⟩ : ∃ V, w.alloc (.cells #[.int .i64 kd, .int .i64 xa, .int .i64 xb] 45) = V := ⟨_, rfl⟩
              rw [hV] at hb0 kb
              have HV := Lib.hid hV
              have BB := Lib.hid hb0
              have KE := Lib.hid kb
              clear hV hb0 kb
              go_enter Try.func39, Try.ntmps39
              go_upto_region 1 with fail
              rw [HV.out]
              clear HV
              obtain ⟨q0, q1, q2⟩ := KE.out.c3e
              have lE := KE.out.lt
              go_wp2_with fail
              refine (rinE_any kd 0 7 _).mono ?_
              rw [HR1.out]
              try dsimp only [Bool.and_true, Bool.true_and, Bool.and_false, Bool.false_and]
              rintro e u1 ⟨rfl, hw⟩
              have hw2 := hw.symm
              subst hw2
              clear hw
              go_wp2_with fail
              refine (rinE_any xa 0 255 _).mono ?_
              rw [HR2.out]
              try dsimp only [Bool.and_true, Bool.true_and, Bool.and_false, Bool.false_and]
              rintro e u1 ⟨rfl, hw⟩
              have hw2 := hw.symm
              subst hw2
              clear hw
              go_wp2_with fail
              refine (rinE_any xb 0 255 _).mono ?_
              rw [HR3.out]
              try dsimp only [Bool.and_true, Bool.true_and, Bool.and_false, Bool.false_and]
              rintro e u1 ⟨rfl, hw⟩
              have hw2 := hw.symm
              subst hw2
              clear hw
              go_wp2_with fail
              go_ret
              exact ⟨rfl, BB.out⟩
        · by_cases k1 : kd = 1
          · by_cases a0 : xa = 0
            · have HM : Hid (mayE (kd, xa, xb) = true) := Lib.hid (mayE_iff.2 (by dsimp only; omega))
              have r1a : decide ((0 : Int) ≤ kd) = true := decide_eq_true (by omega)
              have r1b : decide (kd ≤ 7) = true := decide_eq_true (by omega)
              have r1 : (decide ((0 : Int) ≤ kd) && decide (kd ≤ 7)) = true := by rw [r1a, r1b]; rfl
              clear r1a r1b
              have r2a : decide ((0 : Int) ≤ xa) = true := decide_eq_true (by omega)
              have r2b : decide (xa ≤ 255) = true := decide_eq_true (by omega)
              have r2 : (decide ((0 : Int) ≤ xa) && decide (xa ≤ 255)) = true := by rw [r2a, r2b]; rfl
              clear r2a r2b
              have r3a : decide ((0 : Int) ≤ xb) = true := decide_eq_true (by omega)
              have r3b : decide (xb ≤ 255) = true := decide_eq_true (by omega)
              have r3 : (decide ((0 : Int) ≤ xb) && decide (xb ≤ 255)) = true := by rw [r3a, r3b]; rfl
              clear r3a r3b
              have HR1 := Lib.hid r1
              have HR2 := Lib.hid r2
              have HR3 := Lib.hid r3
              clear r1 r2 r3
              have tb : (xb == 0) = false ∧ (xb != 0) = true := by constructor <;> (simp; omega)
              obtain ⟨tb, tbn⟩ := tb
              have t1 : (kd == 1) = true ∧ (kd != 1) = false := by constructor <;> (simp; omega)
              obtain ⟨t1, t1n⟩ := t1
              have ta : (xa == 0) = true ∧ (xa != 0) = false := by constructor <;> (simp; omega)
              obtain ⟨ta, tan⟩ := ta
              clear h1 h2 h3 a0 b0 k1
              rw [show mayE (kd, xa, xb) = true from HM.out]
              obtain ⟨kb, hb0⟩ := lay1 w #[.int .i64 kd, .int .i64 xa, .int .i64 xb] 45
              obtain ⟨V, hV⟩ : ∃ V, w.alloc (.cells #[.int .i64 kd, .int .i64 xa, .int .i64 xb] 45) = V := ⟨_, rfl⟩
              rw [hV] at hb0 kb
              have HV := Lib.hid hV
              have BB := Lib.hid hb0
              have KE := Lib.hid kb
              clear hV hb0 kb
              go_enter Try.func39, Try.ntmps39
              go_upto_region 1 with fail
              rw [HV.out]
              clear HV
              obtain ⟨q0, q1, q2⟩ := KE.out.c3e
              have lE := KE.out.lt
              go_wp2_with fail
              refine (rinE_any kd 0 7 _).mono ?_
              rw [HR1.out]
              try dsimp only [Bool.and_true, Bool.true_and, Bool.and_false, Bool.false_and]
              rintro e u1 ⟨rfl, hw⟩
              have hw2 := hw.symm
              subst hw2
              clear hw
              go_wp2_with fail
              refine (rinE_any xa 0 255 _).mono ?_
              rw [HR2.out]
              try dsimp only [Bool.and_true, Bool.true_and, Bool.and_false, Bool.false_and]
              rintro e u1 ⟨rfl, hw⟩
              have hw2 := hw.symm
              subst hw2
              clear hw
              go_wp2_with fail
              refine (rinE_any xb 0 255 _).mono ?_
              rw [HR3.out]
              try dsimp only [Bool.and_true, Bool.true_and, Bool.and_false, Bool.false_and]
              rintro e u1 ⟨rfl, hw⟩
              have hw2 := hw.symm
              subst hw2
              clear hw
              go_wp2_with fail
              go_ret
              exact ⟨rfl, BB.out⟩
            · by_cases k7 : kd = 7
              · have HM : Hid (mayE (kd, xa, xb) = false) := Lib.hid (by cases e : mayE (kd, xa, xb) with | false => rfl | true => have q := mayE_iff.1 e; dsimp only at q; omega)
                have r1a : decide ((0 : Int) ≤ kd) = true := decide_eq_true (by omega)
                have r1b : decide (kd ≤ 7) = true := decide_eq_true (by omega)
                have r1 : (decide ((0 : Int) ≤ kd) && decide (kd ≤ 7)) = true := by rw [r1a, r1b]; rfl
                clear r1a r1b
                have r2a : decide ((0 : Int) ≤ xa) = true := decide_eq_true (by omega)
                have r2b : decide (xa ≤ 255) = true := decide_eq_true (by omega)
                have r2 : (decide ((0 : Int) ≤ xa) && decide (xa ≤ 255)) = true := by rw [r2a, r2b]; rfl
                clear r2a r2b
                have r3a : decide ((0 : Int) ≤ xb) = true := decide_eq_true (by omega)
                have r3b : decide (xb ≤ 255) = true := decide_eq_true (by omega)
                have r3 : (decide ((0 : Int) ≤ xb) && decide (xb ≤ 255)) = true := by rw [r3a, r3b]; rfl
                clear r3a r3b
                have HR1 := Lib.hid r1
                have HR2 := Lib.hid r2
                have HR3 := Lib.hid r3
                clear r1 r2 r3
                have tb : (xb == 0) = false ∧ (xb != 0) = true := by constructor <;> (simp; omega)
                obtain ⟨tb, tbn⟩ := tb
                have t1 : (kd == 1) = true ∧ (kd != 1) = false := by constructor <;> (simp; omega)
                obtain ⟨t1, t1n⟩ := t1
                have ta : (xa == 0) = false ∧ (xa != 0) = true := by constructor <;> (simp; omega)
                obtain ⟨ta, tan⟩ := ta
                have t7 : (kd == 7) = true ∧ (kd != 7) = false := by constructor <;> (simp; omega)
                obtain ⟨t7, t7n⟩ := t7
                clear h1 h2 h3 a0 k7 b0 k1
                rw [show mayE (kd, xa, xb) = false from HM.out]
                obtain ⟨kb, hb0⟩ := lay1 w #[.int .i64 kd, .int .i64 xa, .int .i64 xb] 45
                obtain ⟨V, hV⟩ : ∃ V, w.alloc (.cells #[.int .i64 kd, .int .i64 xa, .int .i64 xb] 45) = V := ⟨_, rfl⟩
                rw [hV] at hb0 kb
                have HV := Lib.hid hV
                have BB := Lib.hid hb0
                have KE := Lib.hid kb
                clear hV hb0 kb
                go_enter Try.func39, Try.ntmps39
                go_upto_region 1 with fail
                rw [HV.out]
                clear HV
                obtain ⟨q0, q1, q2⟩ := KE.out.c3e
                have lE := KE.out.lt
                go_wp2_with fail
                refine (rinE_any kd 0 7 _).mono ?_
                rw [HR1.out]
                try dsimp only [Bool.and_true, Bool.true_and, Bool.and_false, Bool.false_and]
                rintro e u1 ⟨rfl, hw⟩
                have hw2 := hw.symm
                subst hw2
                clear hw
                go_wp2_with fail
                refine (rinE_any xa 0 255 _).mono ?_
                rw [HR2.out]
                try dsimp only [Bool.and_true, Bool.true_and, Bool.and_false, Bool.false_and]
                rintro e u1 ⟨rfl, hw⟩
                have hw2 := hw.symm
                subst hw2
                clear hw
                go_wp2_with fail
                refine (rinE_any xb 0 255 _).mono ?_
                rw [HR3.out]
                try dsimp only [Bool.and_true, Bool.true_and, Bool.and_false, Bool.false_and]
                rintro e u1 ⟨rfl, hw⟩
                have hw2 := hw.symm
                subst hw2
                clear hw
                go_wp2_with fail
                go_ret
                exact ⟨rfl, BB.out⟩
              · have HM : Hid (mayE (kd, xa, xb) = true) := Lib.hid (mayE_iff.2 (by dsimp only; omega))
                have r1a : decide ((0 : Int) ≤ kd) = true := decide_eq_true (by omega)
                have r1b : decide (kd ≤ 7) = true := decide_eq_true (by omega)
                have r1 : (decide ((0 : Int) ≤ kd) && decide (kd ≤ 7)) = true := by rw [r1a, r1b]; rfl
                clear r1a r1b
                have r2a : decide ((0 : Int) ≤ xa) = true := decide_eq_true (by omega)
                have r2b : decide (xa ≤ 255) = true := decide_eq_true (by omega)
                have r2 : (decide ((0 : Int) ≤ xa) && decide (xa ≤ 255)) = true := by rw [r2a, r2b]; rfl
                clear r2a r2b
                have r3a : decide ((0 : Int) ≤ xb) = true := decide_eq_true (by omega)
                have r3b : decide (xb ≤ 255) = true := decide_eq_true (by omega)
                have r3 : (decide ((0 : Int) ≤ xb) && decide (xb ≤ 255)) = true := by rw [r3a, r3b]; rfl
                clear r3a r3b
                have HR1 := Lib.hid r1
                have HR2 := Lib.hid r2
                have HR3 := Lib.hid r3
                clear r1 r2 r3
                have tb : (xb == 0) = false ∧ (xb != 0) = true := by constructor <;> (simp; omega)
                obtain ⟨tb, tbn⟩ := tb
                have t1 : (kd == 1) = true ∧ (kd != 1) = false := by constructor <;> (simp; omega)
                obtain ⟨t1, t1n⟩ := t1
                have ta : (xa == 0) = false ∧ (xa != 0) = true := by constructor <;> (simp; omega)
                obtain ⟨ta, tan⟩ := ta
                have t7 : (kd == 7) = false ∧ (kd != 7) = true := by constructor <;> (simp; omega)
                obtain ⟨t7, t7n⟩ := t7
                clear h1 h2 h3 a0 k7 b0 k1
                rw [show mayE (kd, xa, xb) = true from HM.out]
                obtain ⟨kb, hb0⟩ := lay1 w #[.int .i64 kd, .int .i64 xa, .int .i64 xb] 45
                obtain ⟨V, hV⟩ : ∃ V, w.alloc (.cells #[.int .i64 kd, .int .i64 xa, .int .i64 xb] 45) = V := ⟨_, rfl⟩
                rw [hV] at hb0 kb
                have HV := Lib.hid hV
                have BB := Lib.hid hb0
                have KE := Lib.hid kb
                clear hV hb0 kb
                go_enter Try.func39, Try.ntmps39
                go_upto_region 1 with fail
                rw [HV.out]
                clear HV
                obtain ⟨q0, q1, q2⟩ := KE.out.c3e
                have lE := KE.out.lt
                go_wp2_with fail
                refine (rinE_any kd 0 7 _).mono ?_
                rw [HR1.out]
                try dsimp only [Bool.and_true, Bool.true_and, Bool.and_false, Bool.false_and]
                rintro e u1 ⟨rfl, hw⟩
                have hw2 := hw.symm
                subst hw2
                clear hw
                go_wp2_with fail
                refine (rinE_any xa 0 255 _).mono ?_
                rw [HR2.out]
                try dsimp only [Bool.and_true, Bool.true_and, Bool.and_false, Bool.false_and]
                rintro e u1 ⟨rfl, hw⟩
                have hw2 := hw.symm
                subst hw2
                clear hw
                go_wp2_with fail
                refine (rinE_any xb 0 255 _).mono ?_
                rw [HR3.out]
                try dsimp only [Bool.and_true, Bool.true_and, Bool.and_false, Bool.false_and]
                rintro e u1 ⟨rfl, hw⟩
                have hw2 := hw.symm
                subst hw2
                clear hw
                go_wp2_with fail
                go_ret
                exact ⟨rfl, BB.out⟩
          · by_cases k4 : kd = 4
            · by_cases a0 : xa = 0
              · have HM : Hid (mayE (kd, xa, xb) = true) := Lib.hid (mayE_iff.2 (by dsimp only; omega))
                have r1a : decide ((0 : Int) ≤ kd) = true := decide_eq_true (by omega)
                have r1b : decide (kd ≤ 7) = true := decide_eq_true (by omega)
                have r1 : (decide ((0 : Int) ≤ kd) && decide (kd ≤ 7)) = true := by rw [r1a, r1b]; rfl
                clear r1a r1b
                have r2a : decide ((0 : Int) ≤ xa) = true := decide_eq_true (by omega)
                have r2b : decide (xa ≤ 255) = true := decide_eq_true (by omega)
                have r2 : (decide ((0 : Int) ≤ xa) && decide (xa ≤ 255)) = true := by rw [r2a, r2b]; rfl
                clear r2a r2b
                have r3a : decide ((0 : Int) ≤ xb) = true := decide_eq_true (by omega)
                have r3b : decide (xb ≤ 255) = true := decide_eq_true (by omega)
                have r3 : (decide ((0 : Int) ≤ xb) && decide (xb ≤ 255)) = true := by rw [r3a, r3b]; rfl
                clear r3a r3b
                have HR1 := Lib.hid r1
                have HR2 := Lib.hid r2
                have HR3 := Lib.hid r3
                clear r1 r2 r3
                have tb : (xb == 0) = false ∧ (xb != 0) = true := by constructor <;> (simp; omega)
                obtain ⟨tb, tbn⟩ := tb
                have t1 : (kd == 1) = false ∧ (kd != 1) = true := by constructor <;> (simp; omega)
                obtain ⟨t1, t1n⟩ := t1
                have t4 : (kd == 4) = true ∧ (kd != 4) = false := by constructor <;> (simp; omega)
                obtain ⟨t4, t4n⟩ := t4
                have ta : (xa == 0) = true ∧ (xa != 0) = false := by constructor <;> (simp; omega)
                obtain ⟨ta, tan⟩ := ta
                clear h1 h2 h3 a0 b0 k1 k4
                rw [show mayE (kd, xa, xb) = true from HM.out]
                obtain ⟨kb, hb0⟩ := lay1 w #[.int .i64 kd, .int .i64 xa, .int .i64 xb] 45
                obtain ⟨V, hV⟩ : ∃ V, w.alloc (.cells #[.int .i64 kd, .int .i64 xa, .int .i64 xb] 45) = V := ⟨_, rfl⟩
                rw [hV] at hb0 kb
                have HV := Lib.hid hV
                have BB := Lib.hid hb0
                have KE := Lib.hid kb
                clear hV hb0 kb
                go_enter Try.func39, Try.ntmps39
                go_upto_region 1 with fail
                rw [HV.out]
                clear HV
                obtain ⟨q0, q1, q2⟩ := KE.out.c3e
                have lE := KE.out.lt
                go_wp2_with fail
                refine (rinE_any kd 0 7 _).mono ?_
                rw [HR1.out]
                try dsimp only [Bool.and_true, Bool.true_and, Bool.and_false, Bool.false_and]
                rintro e u1 ⟨rfl, hw⟩
                have hw2 := hw.symm
                subst hw2
                clear hw
                go_wp2_with fail
                refine (rinE_any xa 0 255 _).mono ?_
                rw [HR2.out]
                try dsimp only [Bool.and_true, Bool.true_and, Bool.and_false, Bool.false_and]
                rintro e u1 ⟨rfl, hw⟩
                have hw2 := hw.symm
                subst hw2
                clear hw
                go_wp2_with fail
                refine (rinE_any xb 0 255 _).mono ?_
                rw [HR3.out]
                try dsimp only [Bool.and_true, Bool.true_and, Bool.and_false, Bool.false_and]
                rintro e u1 ⟨rfl, hw⟩
                have hw2 := hw.symm
                subst hw2
                clear hw
                go_wp2_with fail
                go_ret
                exact ⟨rfl, BB.out⟩
              · by_cases k7 : kd = 7
                · have HM : Hid (mayE (kd, xa, xb) = false) := Lib.hid (by cases e : mayE (kd, xa, xb) with | false => rfl | true => have q := mayE_iff.1 e; dsimp only at q; omega)
                  have r1a : decide ((0 : Int) ≤ kd) = true := decide_eq_true (by omega)
                  have r1b : decide (kd ≤ 7) = true := decide_eq_true (by omega)
                  have r1 : (decide ((0 : Int) ≤ kd) && decide (kd ≤ 7)) = true := by rw [r1a, r1b]; rfl
                  clear r1a r1b
                  have r2a : decide ((0 : Int) ≤ xa) = true := decide_eq_true (by omega)
                  have r2b : decide (xa ≤ 255) = true := decide_eq_true (by omega)
                  have r2 : (decide ((0 : Int) ≤ xa) && decide (xa ≤ 255)) = true := by rw [r2a, r2b]; rfl
                  clear r2a r2b
                  have r3a : decide ((0 : Int) ≤ xb) = true := decide_eq_true (by omega)
                  have r3b : decide (xb ≤ 255) = true := decide_eq_true (by omega)
                  have r3 : (decide ((0 : Int) ≤ xb) && decide (xb ≤ 255)) = true := by rw [r3a, r3b]; rfl
                  clear r3a r3b
                  have HR1 := Lib.hid r1
                  have HR2 := Lib.hid r2
                  have HR3 := Lib.hid r3
                  clear r1 r2 r3
                  have tb : (xb == 0) = false ∧ (xb != 0) = true := by constructor <;> (simp; omega)
                  obtain ⟨tb, tbn⟩ := tb
                  have t1 : (kd == 1) = false ∧ (kd != 1) = true := by constructor <;> (simp; omega)
                  obtain ⟨t1, t1n⟩ := t1
                  have t4 : (kd == 4) = true ∧ (kd != 4) = false := by constructor <;> (simp; omega)
                  obtain ⟨t4, t4n⟩ := t4
                  have ta : (xa == 0) = false ∧ (xa != 0) = true := by constructor <;> (simp; omega)
                  obtain ⟨ta, tan⟩ := ta
                  have t7 : (kd == 7) = true ∧ (kd != 7) = false := by constructor <;> (simp; omega)
                  obtain ⟨t7, t7n⟩ := t7
                  clear h1 h2 h3 a0 k7 b0 k1 k4
                  rw [show mayE (kd, xa, xb) = false from HM.out]
                  obtain ⟨kb, hb0⟩ := lay1 w #[.int .i64 kd, .int .i64 xa, .int .i64 xb] 45
                  obtain ⟨V, hV⟩ : ∃ V, w.alloc (.cells #[.int .i64 kd, .int .i64 xa, .int .i64 xb] 45) = V := ⟨_, rfl⟩
                  rw [hV] at hb0 kb
                  have HV := Lib.hid hV
                  have BB := Lib.hid hb0
                  have KE := Lib.hid kb
                  clear hV hb0 kb
                  go_enter Try.func39, Try.ntmps39
                  go_upto_region 1 with fail
                  rw [HV.out]
                  clear HV
                  obtain ⟨q0, q1, q2⟩ := KE.out.c3e
                  have lE := KE.out.lt
                  go_wp2_with fail
                  refine (rinE_any kd 0 7 _).mono ?_
                  rw [HR1.out]
                  try dsimp only [Bool.and_true, Bool.true_and, Bool.and_false, Bool.false_and]
                  rintro e u1 ⟨rfl, hw⟩
                  have hw2 := hw.symm
                  subst hw2
                  clear hw
                  go_wp2_with fail
                  refine (rinE_any xa 0 255 _).mono ?_
                  rw [HR2.out]
                  try dsimp only [Bool.and_true, Bool.true_and, Bool.and_false, Bool.false_and]
                  rintro e u1 ⟨rfl, hw⟩
                  have hw2 := hw.symm
                  subst hw2
                  clear hw
                  go_wp2_with fail
                  refine (rinE_any xb 0 255 _).mono ?_
                  rw [HR3.out]
                  try dsimp only [Bool.and_true, Bool.true_and, Bool.and_false, Bool.false_and]
                  rintro e u1 ⟨rfl, hw⟩
                  have hw2 := hw.symm
                  subst hw2
                  clear hw
                  go_wp2_with fail
                  go_ret
                  exact ⟨rfl, BB.out⟩
                · have HM : Hid (mayE (kd, xa, xb) = true) := Lib.hid (mayE_iff.2 (by dsimp only; omega))
                  have r1a : decide ((0 : Int) ≤ kd) = true := decide_eq_true (by omega)
                  have r1b : decide (kd ≤ 7) = true := decide_eq_true (by omega)
                  have r1 : (decide ((0 : Int) ≤ kd) && decide (kd ≤ 7)) = true := by rw [r1a, r1b]; rfl
                  clear r1a r1b
                  have r2a : decide ((0 : Int) ≤ xa) = true := decide_eq_true (by omega)
                  have r2b : decide (xa ≤ 255) = true := decide_eq_true (by omega)
                  have r2 : (decide ((0 : Int) ≤ xa) && decide (xa ≤ 255)) = true := by rw [r2a, r2b]; rfl
                  clear r2a r2b
                  have r3a : decide ((0 : Int) ≤ xb) = true := decide_eq_true (by omega)
                  have r3b : decide (xb ≤ 255) = true := decide_eq_true (by omega)
                  have r3 : (decide ((0 : Int) ≤ xb) && decide (xb ≤ 255)) = true := by rw [r3a, r3b]; rfl
                  clear r3a r3b
                  have HR1 := Lib.hid r1
                  have HR2 := Lib.hid r2
                  have HR3 := Lib.hid r3
                  clear r1 r2 r3
                  have tb : (xb == 0) = false ∧ (xb != 0) = true := by constructor <;> (simp; omega)
                  obtain ⟨tb, tbn⟩ := tb
                  have t1 : (kd == 1) = false ∧ (kd != 1) = true := by constructor <;> (simp; omega)
                  obtain ⟨t1, t1n⟩ := t1
                  have t4 : (kd == 4) = true ∧ (kd != 4) = false := by constructor <;> (simp; omega)
                  obtain ⟨t4, t4n⟩ := t4
                  have ta : (xa == 0) = false ∧ (xa != 0) = true := by constructor <;> (simp; omega)
                  obtain ⟨ta, tan⟩ := ta
                  have t7 : (kd == 7) = false ∧ (kd != 7) = true := by constructor <;> (simp; omega)
                  obtain ⟨t7, t7n⟩ := t7
                  clear h1 h2 h3 a0 k7 b0 k1 k4
                  rw [show mayE (kd, xa, xb) = true from HM.out]
                  obtain ⟨kb, hb0⟩ := lay1 w #[.int .i64 kd, .int .i64 xa, .int .i64 xb] 45
                  obtain ⟨V, hV⟩ : ∃ V, w.alloc (.cells #[.int .i64 kd, .int .i64 xa, .int .i64 xb] 45) = V := ⟨_, rfl⟩
                  rw [hV] at hb0 kb
                  have HV := Lib.hid hV
                  have BB := Lib.hid hb0
                  have KE := Lib.hid kb
                  clear hV hb0 kb
                  go_enter Try.func39, Try.ntmps39
                  go_upto_region 1 with fail
                  rw [HV.out]
                  clear HV
                  obtain ⟨q0, q1, q2⟩ := KE.out.c3e
                  have lE := KE.out.lt
                  go_wp2_with fail
                  refine (rinE_any kd 0 7 _).mono ?_
                  rw [HR1.out]
                  try dsimp only [Bool.and_true, Bool.true_and, Bool.and_false, Bool.false_and]
                  rintro e u1 ⟨rfl, hw⟩
                  have hw2 := hw.symm
                  subst hw2
                  clear hw
                  go_wp2_with fail
                  refine (rinE_any xa 0 255 _).mono ?_
                  rw [HR2.out]
                  try dsimp only [Bool.and_true, Bool.true_and, Bool.and_false, Bool.false_and]
                  rintro e u1 ⟨rfl, hw⟩
                  have hw2 := hw.symm
                  subst hw2
                  clear hw
                  go_wp2_with fail
                  refine (rinE_any xb 0 255 _).mono ?_
                  rw [HR3.out]
                  try dsimp only [Bool.and_true, Bool.true_and, Bool.and_false, Bool.false_and]
                  rintro e u1 ⟨rfl, hw⟩
                  have hw2 := hw.symm
                  subst hw2
                  clear hw
                  go_wp2_with fail
                  go_ret
                  exact ⟨rfl, BB.out⟩
            · have HM : Hid (mayE (kd, xa, xb) = false) := Lib.hid (by cases e : mayE (kd, xa, xb) with | false => rfl | true => have q := mayE_iff.1 e; dsimp only at q; omega)
              have r1a : decide ((0 : Int) ≤ kd) = true := decide_eq_true (by omega)
              have r1b : decide (kd ≤ 7) = true := decide_eq_true (by omega)
              have r1 : (decide ((0 : Int) ≤ kd) && decide (kd ≤ 7)) = true := by rw [r1a, r1b]; rfl
              clear r1a r1b
              have r2a : decide ((0 : Int) ≤ xa) = true := decide_eq_true (by omega)
              have r2b : decide (xa ≤ 255) = true := decide_eq_true (by omega)
              have r2 : (decide ((0 : Int) ≤ xa) && decide (xa ≤ 255)) = true := by rw [r2a, r2b]; rfl
              clear r2a r2b
              have r3a : decide ((0 : Int) ≤ xb) = true := decide_eq_true (by omega)
              have r3b : decide (xb ≤ 255) = true := decide_eq_true (by omega)
              have r3 : (decide ((0 : Int) ≤ xb) && decide (xb ≤ 255)) = true := by rw [r3a, r3b]; rfl
              clear r3a r3b
              have HR1 := Lib.hid r1
              have HR2 := Lib.hid r2
              have HR3 := Lib.hid r3
              clear r1 r2 r3
              have tb : (xb == 0) = false ∧ (xb != 0) = true := by constructor <;> (simp; omega)
              obtain ⟨tb, tbn⟩ := tb
              have t1 : (kd == 1) = false ∧ (kd != 1) = true := by constructor <;> (simp; omega)
              obtain ⟨t1, t1n⟩ := t1
              have t4 : (kd == 4) = false ∧ (kd != 4) = true := by constructor <;> (simp; omega)
              obtain ⟨t4, t4n⟩ := t4
              clear h1 h2 h3 b0 k1 k4
              rw [show mayE (kd, xa, xb) = false from HM.out]
              obtain ⟨kb, hb0⟩ := lay1 w #[.int .i64 kd, .int .i64 xa, .int .i64 xb] 45
              obtain ⟨V, hV⟩ : ∃ V, w.alloc (.cells #[.int .i64 kd, .int .i64 xa, .int .i64 xb] 45) = V := ⟨_, rfl⟩
              rw [hV] at hb0 kb
              have HV := Lib.hid hV
              have BB := Lib.hid hb0
              have KE := Lib.hid kb
              clear hV hb0 kb
              go_enter Try.func39, Try.ntmps39
              go_upto_region 1 with fail
              rw [HV.out]
              clear HV
              obtain ⟨q0, q1, q2⟩ := KE.out.c3e
              have lE := KE.out.lt
              go_wp2_with fail
              refine (rinE_any kd 0 7 _).mono ?_
              rw [HR1.out]
              try dsimp only [Bool.and_true, Bool.true_and, Bool.and_false, Bool.false_and]
              rintro e u1 ⟨rfl, hw⟩
              have hw2 := hw.symm
              subst hw2
              clear hw
              go_wp2_with fail
              refine (rinE_any xa 0 255 _).mono ?_
              rw [HR2.out]
              try dsimp only [Bool.and_true, Bool.true_and, Bool.and_false, Bool.false_and]
              rintro e u1 ⟨rfl, hw⟩
              have hw2 := hw.symm
              subst hw2
              clear hw
              go_wp2_with fail
              refine (rinE_any xb 0 255 _).mono ?_
              rw [HR3.out]
              try dsimp only [Bool.and_true, Bool.true_and, Bool.and_false, Bool.false_and]
              rintro e u1 ⟨rfl, hw⟩
              have hw2 := hw.symm
              subst hw2
              clear hw
              go_wp2_with fail
              go_ret
              exact ⟨rfl, BB.out⟩
      · have HM : Hid (mayE (kd, xa, xb) = false) := Lib.hid (by cases e : mayE (kd, xa, xb) with | false => rfl | true => have q := mayE_iff.1 e; dsimp only at q; omega)
        have r1a : decide ((0 : Int) ≤ kd) = true := decide_eq_true (by omega)
        have r1b : decide (kd ≤ 7) = true := decide_eq_true (by omega)
        have r1 : (decide ((0 : Int) ≤ kd) && decide (kd ≤ 7)) = true := by rw [r1a, r1b]; rfl
        clear r1a r1b
        have r2a : decide ((0 : Int) ≤ xa) = true := decide_eq_true (by omega)
        have r2b : decide (xa ≤ 255) = true := decide_eq_true (by omega)
        have r2 : (decide ((0 : Int) ≤ xa) && decide (xa ≤ 255)) = true := by rw [r2a, r2b]; rfl
        clear r2a r2b
        have r3 : (decide ((0 : Int) ≤ xb) && decide (xb ≤ 255)) = false := by simp; omega
        have HR1 := Lib.hid r1
        have HR2 := Lib.hid r2
        have HR3 := Lib.hid r3
        clear r1 r2 r3
        clear h1 h2 h3
        rw [show mayE (kd, xa, xb) = false from HM.out]
        obtain ⟨kb, hb0⟩ := lay1 w #[.int .i64 kd, .int .i64 xa, .int .i64 xb] 45
        obtain ⟨V, hV⟩ : ∃ V, w.alloc (.cells #[.int .i64 kd, .int .i64 xa, .int .i64 xb] 45) = V := ⟨_, rfl⟩
        rw [hV] at hb0 kb
        have HV := Lib.hid hV
        have BB := Lib.hid hb0
        have KE := Lib.hid kb
        clear hV hb0 kb
        go_enter Try.func39, Try.ntmps39
        go_upto_region 1 with fail
        rw [HV.out]
        clear HV
        obtain ⟨q0, q1, q2⟩ := KE.out.c3e
        have lE := KE.out.lt
        go_wp2_with fail
        refine (rinE_any kd 0 7 _).mono ?_
        rw [HR1.out]
        try dsimp only [Bool.and_true, Bool.true_and, Bool.and_false, Bool.false_and]
        rintro e u1 ⟨rfl, hw⟩
        have hw2 := hw.symm
        subst hw2
        clear hw
        go_wp2_with fail
        refine (rinE_any xa 0 255 _).mono ?_
        rw [HR2.out]
        try dsimp only [Bool.and_true, Bool.true_and, Bool.and_false, Bool.false_and]
        rintro e u1 ⟨rfl, hw⟩
        have hw2 := hw.symm
        subst hw2
        clear hw
        go_wp2_with fail
        refine (rinE_any xb 0 255 _).mono ?_
        rw [HR3.out]
        try dsimp only [Bool.and_true, Bool.true_and, Bool.and_false, Bool.false_and]
        rintro e u1 ⟨rfl, hw⟩
        have hw2 := hw.symm
        subst hw2
        clear hw
        go_wp2_with fail
        go_ret
        exact ⟨rfl, BB.out⟩
    · have HM : Hid (mayE (kd, xa, xb) = false) := Lib.hid (by cases e : mayE (kd, xa, xb) with | false => rfl | true => have q := mayE_iff.1 e; dsimp only at q; omega)
      have r1a : decide ((0 : Int) ≤ kd) = true := decide_eq_true (by omega)
      have r1b : decide (kd ≤ 7) = true := decide_eq_true (by omega)
      have r1 : (decide ((0 : Int) ≤ kd) && decide (kd ≤ 7)) = true := by rw [r1a, r1b]; rfl
      clear r1a r1b
      have r2 : (decide ((0 : Int) ≤ xa) && decide (xa ≤ 255)) = false := by simp; omega
      have HR1 := Lib.hid r1
      have HR2 := Lib.hid r2
      clear r1 r2
      clear h1 h2
      rw [show mayE (kd, xa, xb) = false from HM.out]
      obtain ⟨kb, hb0⟩ := lay1 w #[.int .i64 kd, .int .i64 xa, .int .i64 xb] 45
      obtain ⟨V, hV⟩ : ∃ V, w.alloc (.cells #[.int .i64 kd, .int .i64 xa, .int .i64 xb] 45) = V := ⟨_, rfl⟩
      rw [hV] at hb0 kb
      have HV := Lib.hid hV
      have BB := Lib.hid hb0
      have KE := Lib.hid kb
      clear hV hb0 kb
      go_enter Try.func39, Try.ntmps39
      go_upto_region 1 with fail
      rw [HV.out]
      clear HV
      obtain ⟨q0, q1, q2⟩ := KE.out.c3e
      have lE := KE.out.lt
      go_wp2_with fail
      refine (rinE_any kd 0 7 _).mono ?_
      rw [HR1.out]
      try dsimp only [Bool.and_true, Bool.true_and, Bool.and_false, Bool.false_and]
      rintro e u1 ⟨rfl, hw⟩
      have hw2 := hw.symm
      subst hw2
      clear hw
      go_wp2_with fail
      refine (rinE_any xa 0 255 _).mono ?_
      rw [HR2.out]
      try dsimp only [Bool.and_true, Bool.true_and, Bool.and_false, Bool.false_and]
      rintro e u1 ⟨rfl, hw⟩
      have hw2 := hw.symm
      subst hw2
      clear hw
      go_wp2_with fail
      go_ret
      exact ⟨rfl, BB.out⟩
  · have HM : Hid (mayE (kd, xa, xb) = false) := Lib.hid (by cases e : mayE (kd, xa, xb) with | false => rfl | true => have q := mayE_iff.1 e; dsimp only at q; omega)
    have r1 : (decide ((0 : Int) ≤ kd) && decide (kd ≤ 7)) = false := by simp; omega
    have HR1 := Lib.hid r1
    clear r1
    clear h1
    rw [show mayE (kd, xa, xb) = false from HM.out]
    obtain ⟨kb, hb0⟩ := lay1 w #[.int .i64 kd, .int .i64 xa, .int .i64 xb] 45
    obtain ⟨V, hV⟩ : ∃ V, w.alloc (.cells #[.int .i64 kd, .int .i64 xa, .int .i64 xb] 45) = V := ⟨_, rfl⟩
    rw [hV] at hb0 kb
    have HV := Lib.hid hV
    have BB := Lib.hid hb0
    have KE := Lib.hid kb
    clear hV hb0 kb
    go_enter Try.func39, Try.ntmps39
    go_upto_region 1 with fail
    rw [HV.out]
    clear HV
    obtain ⟨q0, q1, q2⟩ := KE.out.c3e
    have lE := KE.out.lt
    go_wp2_with fail
    refine (rinE_any kd 0 7 _).mono ?_
    rw [HR1.out]
    try dsimp only [Bool.and_true, Bool.true_and, Bool.and_false, Bool.false_and]
    rintro e u1 ⟨rfl, hw⟩
    have hw2 := hw.symm
    subst hw2
    clear hw
    go_wp2_with fail
    go_ret
    exact ⟨rfl, BB.out⟩

set_option maxHeartbeats 2000000 in
theorem rcheckE_any (A : Option Addr) (n c : Nat) (l : List I3) (w : World) (hp : Prog w A n c l) :
    Calls Try.prog 24 #[.slice A n c] w (RetB (.int .i64 (chkE19 l)) w) := by
  have HP := Lib.hid hp
  have LX := Lib.hid hp.1
  have hnc := hp.2.1
  clear hp
  by_cases h : 65536 < l.length
  · rw [chkE19_long h]
    have t0 : decide (65536 < (n : Int)) = true := decide_eq_true (by have := LX.out; omega)
    have t0n : decide (65536 < n) = true := decide_eq_true (by have := LX.out; omega)
    clear h
    go_enter Try.func24, Try.ntmps24
    go_wp2_with fail
    go_ret
    exact ⟨rfl, Below.refl _ _⟩
  · have HH := Lib.hid h
    have hn6 : n ≤ 65536 := by have := LX.out; omega
    have t0 : decide (65536 < (n : Int)) = false := decide_eq_false (by omega)
    have t0n : decide (65536 < n) = false := decide_eq_false (by omega)
    clear h
    go_enter Try.func24, Try.ntmps24
    go_wp2_with fail
    go_loopw [10] (fun t wr => ∃ k : Nat, k ≤ n ∧ t = .int .i64 k ∧ Hid (∀ j, j < k → mayE (ith l j) = true) ∧ Hid (Below w.heap.size w wr)) (fun t _ => n - (intOf t).toNat)
    case atStart => exact ⟨0, Nat.zero_le _, rfl, Lib.hid (fun j hj => absurd hj (Nat.not_lt_zero _)), Lib.hid (Below.refl _ _)⟩
    case round =>
      rename World => wr
      obtain ⟨k, hk, rfl, OK, BB⟩ := hrel
      by_cases hkn : k < n
      · obtain ⟨b, o, rfl, hb, c0, c1, c2⟩ := (HP.out.below BB.out).at_ hkn
        have hkl : k < l.length := by rw [LX.out]; exact hkn
        obtain ⟨⟨kd, xa, xb⟩, hz⟩ : ∃ e, ith l k = e := ⟨_, rfl⟩
        rw [show jO l k = kd by unfold jO; rw [hz]] at c0
        rw [show jA l k = xa by unfold jA; rw [hz]] at c1
        rw [show jB l k = xb by unfold jB; rw [hz]] at c2
        have kt := Bk.new wr 45 #[.int .i64 kd, .int .i64 xa, .int .i64 xb]
        have ba := (Below.refl wr.heap.size wr).alloc (Nat.le_refl _) (.cells #[.int .i64 kd, .int .i64 xa, .int .i64 xb] 45)
        have B2 := Lib.hid (below3 BB.out ba)
        obtain ⟨W, hW⟩ : ∃ W, wr.alloc (.cells #[.int .i64 kd, .int .i64 xa, .int .i64 xb] 45) = W := ⟨_, rfl⟩
        obtain ⟨g, hg⟩ : ∃ g, wr.heap.size = g := ⟨_, rfl⟩
        rw [hW] at kt B2
        rw [hg] at kt
        have HW := Lib.hid hW
        have HG := Lib.hid hg
        have KE := Lib.hid kt
        have HZ := Lib.hid hz
        have HKL := Lib.hid hkl
        clear hW hg kt ba hz hkl
        go_upto_region 6 with fail
        rw [HW.out, HG.out]
        clear HW HG c0 c1 c2 hb
        obtain ⟨q0, q1, q2⟩ := KE.out.c3e
        have lE := KE.out.lt
        go_wp2_with fail
        refine (rmayE_any (kd, xa, xb) _).mono ?_
        rintro e U ⟨rfl, bU⟩
        replace B2 := Lib.hid (below3 B2.out bU)
        clear bU q0 q1 q2 lE
        cases hv : mayE (kd, xa, xb)
        · have HR : Hid (chkE19 l = 1) := Lib.hid (chkE19_no HH.out (fun q => by have := q k HKL.out; rw [HZ.out, hv] at this; cases this))
          clear hv
          go_wp2_with fail
          go_ret
          exact ⟨by rw [HR.out]; rfl, B2.out⟩
        · have OK2 : Hid (∀ j, j < k + 1 → mayE (ith l j) = true) := Lib.hid (fun j hj => by rcases Nat.lt_or_ge j k with q | q; exact OK.out j q; obtain rfl : j = k := (by omega); rw [HZ.out]; exact hv)
          clear hv
          go_wp2_with fail
          go_roundw
          case rel => exact ⟨k + 1, by omega, by go_num, OK2, B2⟩
          case measure => simp [intOf]; omega
      · have HR : Hid (chkE19 l = 0) := Lib.hid (chkE19_ok HH.out (fun j hj => OK.out j (by have := LX.out; omega)))
        go_wp2_with fail
        go_ret
        exact ⟨by rw [HR.out]; rfl, BB.out⟩

set_option maxHeartbeats 1000000 in
theorem ronly_any (A : Option Addr) (n c : Nat) (l : List I3) (q : Int) (w : World) (hn : n * 24 ≤ 140737488351232) (hp : Prog w A n c l) :
    Calls Try.prog 22 #[.slice A n c, .int .i64 q] w (NewEn (onlyE l q) w) := by
  have HP := Lib.hid hp
  have LX := Lib.hid hp.1
  have hnc := hp.2.1
  clear hp
  go_enter Try.func22, Try.ntmps22
  go_wp2_with fail
  go_loopw [5, 10] (fun u t wr => ∃ (k : Nat) (D : Option Addr) (d : Nat), k ≤ n ∧ t = .int .i64 k ∧ u = .slice D (onlyE (l.take k) q).length d ∧ Hid (Below w.heap.size w wr) ∧ Hid (OwnP 45 wr w.heap.size D d (onlyE (l.take k) q))) (fun _ t _ => n - (intOf t).toNat)
  case atStart => exact ⟨0, none, 0, Nat.zero_le _, rfl, rfl, Lib.hid (Below.refl _ _), Lib.hid (OwnP.nil_ _ _ _)⟩
  case round =>
    rename World => wr
    obtain ⟨k, D, d, hk, rfl, rfl, BB, OD⟩ := hrel
    by_cases hkn : k < n
    · obtain ⟨b, o, rfl, hb, c0, c1, c2⟩ := (HP.out.below BB.out).at_ hkn
      obtain ⟨f0, f1, f2⟩ := HP.out.fit hkn
      have hkl : k < l.length := by rw [LX.out]; exact hkn
      have hnx := onlyE_next hkl q
      obtain ⟨⟨x, y, z⟩, hz⟩ : ∃ e, ith l k = e := ⟨_, rfl⟩
      have ex : jO l k = x := by unfold jO; rw [hz]
      have ey : jA l k = y := by unfold jA; rw [hz]
      have ez : jB l k = z := by unfold jB; rw [hz]
      rw [ex] at c0 f0
      rw [ey] at c1 f1
      rw [ez] at c2 f2
      rw [hz] at hnx
      dsimp only at hnx
      clear ex ey ez hz
      have FX : Hid (FitI (x, y, z)) := Lib.hid ⟨f0, f1, f2⟩
      have kt := Bk.new wr 45 #[.int .i64 x, .int .i64 y, .int .i64 z]
      have ba := (Below.refl wr.heap.size wr).alloc (Nat.le_refl _) (.cells #[.int .i64 x, .int .i64 y, .int .i64 z] 45)
      have hle : (onlyE (l.take k) q).length ≤ k := Nat.le_trans (onlyE_len _ _) (by rw [List.length_take]; exact Nat.min_le_left _ _)
      obtain ⟨v, hv⟩ : ∃ v, onlyE (l.take k) q = v := ⟨_, rfl⟩
      rw [hv] at hnx hle OD ⊢
      have B2 := Lib.hid (below3 BB.out ba)
      replace OD := Lib.hid (OD.out.below ba)
      obtain ⟨W, hW⟩ : ∃ W, wr.alloc (.cells #[.int .i64 x, .int .i64 y, .int .i64 z] 45) = W := ⟨_, rfl⟩
      obtain ⟨g, hg⟩ : ∃ g, wr.heap.size = g := ⟨_, rfl⟩
      rw [hW] at kt B2 OD
      rw [hg] at kt
      have HW := Lib.hid hW
      have HG := Lib.hid hg
      have KV := Lib.hid kt
      clear hW hg kt ba hv f0 f1 f2
      by_cases he : x = q
      · rw [if_pos he] at hnx
        have t0 : (x == q) = true := by simpa using he
        have HN := Lib.hid hnx
        clear he hnx
        go_upto_region 5 with fail
        rw [HW.out, HG.out]
        clear HW HG c0 c1 c2
        obtain ⟨q0, q1, q2⟩ := KV.out.c3e
        have lq := KV.out.lt
        have bl := Lib.hid ((Below.refl W.heap.size W).alloc (Nat.le_refl _) (.cells #[.int .i64 x, .int .i64 y, .int .i64 z] 45))
        go_wp2_with (at_builtin; refine wpList_append_prog _ rfl _ _ 31 rfl 45 _ rfl Try.underlying31 Try.enInfo w.heap.size D d v v.length rfl rfl (OD.out.below bl.out) (some ⟨W.heap.size, 0, none⟩) 1 1 [(x, y, z)] rfl (prog1_en W 45 FX.out) (by omega) (Nat.le_trans B2.out.size bl.out.size) ?_; intro D1 d1 w1 ho hg; have HO := Lib.hid ho; have HB := Lib.hid ((below3 B2.out bl.out).grown hg (Nat.le_trans B2.out.size bl.out.size) (OD.out.blockE)); clear ho hg)
        go_roundw
        case rel => exact ⟨k + 1, D1, d1, by omega, by go_num, by rw [HN.out]; simp, HB, by rw [HN.out]; exact HO⟩
        case measure => simp [intOf]; omega
      · rw [if_neg he] at hnx
        have t0 : (x == q) = false := by simpa using he
        have HN := Lib.hid hnx
        clear he hnx
        go_upto_region 5 with fail
        rw [HW.out, HG.out]
        clear HW HG c0 c1 c2
        obtain ⟨q0, q1, q2⟩ := KV.out.c3e
        have lq := KV.out.lt
        go_wp2_with fail
        go_roundw
        case rel => exact ⟨k + 1, D, d, by omega, by go_num, by rw [HN.out], B2, by rw [HN.out]; exact OD⟩
        case measure => simp [intOf]; omega
    · have HE : Hid (onlyE (l.take k) q = onlyE l q) := Lib.hid (by rw [List.take_of_length_le (by have := LX.out; omega)])
      go_wp2_with fail
      go_ret
      exact ⟨D, d, by rw [← HE.out]; rfl, by rw [← HE.out]; exact OD.out, BB.out⟩

theorem neq_entry (o a b o' a' b' : Int) (w : World) : (binOp .neq 45 (.agg #[.int .i64 o, .int .i64 a, .int .i64 b]) (.agg #[.int .i64 o', .int .i64 a', .int .i64 b'])).run Try.prog w = .ok (.bool (!sameI (o, a, b) (o', a', b'))) w := by
  have h1 : (Op.equalIn 10000 45 (.agg #[.int .i64 o, .int .i64 a, .int .i64 b]) (.agg #[.int .i64 o', .int .i64 a', .int .i64 b'])).run Try.prog w = .ok (sameI (o, a, b) (o', a', b')) w := by
    have hS : Try.prog.underlying 45 = some (.struct (Try.prog.fieldsOf 45)) := by kernel_rfl
    rw [run_equalIn_struct w 9999 45 _ _ hS (by kernel_rfl)]
    simp only [Program.fieldsOf, Try.underlying45]
    have u3 := Try.underlying3
    have u4 := Try.underlying2
    go_simp
    by_cases h1 : o = o' <;> by_cases h2 : a = a' <;> by_cases h3 : b = b' <;> simp [sameI, h1, h2, h3]
  rw [run_neq_struct, h1]
  rfl

/-- A struct of three cells, read. -/
theorem calm_entry {ops : Array Oper} {S : World → Prop} {o : Oper} {a : Act} (hw : Region.wanted o (yielded ops a.tmps) = true) (x : Operand) (ho : o.op = .load 45 x) (b k : Nat) (hx : a.eval x = .pointer (some ⟨b, k, none⟩)) {u v y : Int}
    (hS : ∀ w, S w → w.cell? ⟨b, k, none⟩ = some (.int .i64 u) ∧ w.cell? ⟨b, k + 1, none⟩ = some (.int .i64 v) ∧ w.cell? ⟨b, k + 2, none⟩ = some (.int .i64 y)) : Calm Try.prog ops S o (.agg #[.int .i64 u, .int .i64 v, .int .i64 y]) a :=
  calm_of hw fun w hw' => by
    obtain ⟨g0, g1, g2⟩ := hS w hw'
    unfold execOp
    simp only [ho, hx]
    go_simp

set_option maxHeartbeats 1000000 in
theorem rsameE_any (A B : Option Addr) (n c m d : Nat) (p q : List I3) (w : World) (hp : Prog w A n c p) (hq : Prog w B m d q) :
    Calls Try.prog 20 #[.slice A n c, .slice B m d] w (RetB (.bool (sameP p q)) w) := by
  have HP := Lib.hid hp
  have HQ := Lib.hid hq
  have HN := Lib.hid hp.1
  have HM := Lib.hid hq.1
  have hn := Nat.le_trans hp.2.1.1 hp.2.1.2
  have hm := Nat.le_trans hq.2.1.1 hq.2.1.2
  clear hp hq
  by_cases hnm : n = m
  · obtain rfl : n = m := hnm
    go_enter Try.func20, Try.ntmps20
    go_wp2
    go_loopw [13] (fun t wr => EqRel (fun j => sameI (ith p j) (ith q j)) n w t wr) (fun t _ => n - (intOf t).toNat)
    case atStart => exact ⟨0, Nat.zero_le _, rfl, fun j hj => absurd hj (by omega), Below.refl _ _⟩
    case round =>
      obtain ⟨k, hk, rfl, heq, hb⟩ := hrel
      have HEQ := Lib.hid heq
      have HB := Lib.hid hb
      clear heq hb
      by_cases hlt : k < n
      · obtain ⟨b, o, rfl, hbl, g0, g1, g2⟩ := (HP.out.below HB.out).at_ hlt
        obtain ⟨b', o', rfl, hbl', g0', g1', g2'⟩ := (HQ.out.below HB.out).at_ hlt
        have HG : Hid (∀ U, Below wr.heap.size wr U → U.cell? ⟨b, o + k * 3, none⟩ = some (.int .i64 (jO p k)) ∧ U.cell? ⟨b, o + k * 3 + 1, none⟩ = some (.int .i64 (jA p k)) ∧ U.cell? ⟨b, o + k * 3 + 2, none⟩ = some (.int .i64 (jB p k))) :=
          Lib.hid (fun U hU => ⟨(hU.cell (p := ⟨b, _, none⟩) hbl).trans g0, (hU.cell (p := ⟨b, _, none⟩) hbl).trans g1, (hU.cell (p := ⟨b, _, none⟩) hbl).trans g2⟩)
        have HG' : Hid (∀ U, Below wr.heap.size wr U → U.cell? ⟨b', o' + k * 3, none⟩ = some (.int .i64 (jO q k)) ∧ U.cell? ⟨b', o' + k * 3 + 1, none⟩ = some (.int .i64 (jA q k)) ∧ U.cell? ⟨b', o' + k * 3 + 2, none⟩ = some (.int .i64 (jB q k))) :=
          Lib.hid (fun U hU => ⟨(hU.cell (p := ⟨b', _, none⟩) hbl').trans g0', (hU.cell (p := ⟨b', _, none⟩) hbl').trans g1', (hU.cell (p := ⟨b', _, none⟩) hbl').trans g2'⟩)
        clear g0 g1 g2 g0' g1' g2'
        go_wp2
        refine calm_region (S := fun U => Below wr.heap.size wr U) (by kernel_rfl) (Below.refl _ _).drew ?_
        refine calm_to (i := 0) (t := 16) (v := .slice (some ⟨b, o, none⟩) n c) rfl rfl (by kernel_rfl) (by kernel_rfl) (by kernel_rfl) (fun _ _ _ h => h) (calm_move rfl (.tmp 0) (.inl rfl) rfl) ?_
        simp only [List.setIfInBounds_toArray, List.set_cons_zero, List.set_cons_succ]
        refine calm_to (i := 1) (t := 17) (v := .int .i64 (k : Int)) rfl rfl (by kernel_rfl) (by kernel_rfl) (by kernel_rfl) (fun _ _ _ h => h) (calm_move rfl (.tmp 5) (.inl rfl) rfl) ?_
        simp only [List.setIfInBounds_toArray, List.set_cons_zero, List.set_cons_succ]
        refine calm_to (i := 2) (t := 18) (v := .pointer (some ⟨b, o + k * 3, none⟩)) rfl rfl (by kernel_rfl) (by kernel_rfl) (by kernel_rfl) (fun _ _ _ h => h) (calm_of rfl (fun U hU => by go_simp)) ?_
        simp only [List.setIfInBounds_toArray, List.set_cons_zero, List.set_cons_succ]
        refine calm_to (i := 3) (t := 19) (v := .agg #[.int .i64 (jO p k), .int .i64 (jA p k), .int .i64 (jB p k)]) rfl rfl (by kernel_rfl) (by kernel_rfl) (by kernel_rfl) (fun _ _ _ h => h) (calm_entry rfl (.tmp 18) rfl b _ rfl HG.out) ?_
        simp only [List.setIfInBounds_toArray, List.set_cons_zero, List.set_cons_succ]
        refine calm_to (i := 4) (t := 20) (v := .slice (some ⟨b', o', none⟩) n d) rfl rfl (by kernel_rfl) (by kernel_rfl) (by kernel_rfl) (fun _ _ _ h => h) (calm_move rfl (.tmp 1) (.inl rfl) rfl) ?_
        simp only [List.setIfInBounds_toArray, List.set_cons_zero, List.set_cons_succ]
        refine calm_to (i := 5) (t := 21) (v := .int .i64 (k : Int)) rfl rfl (by kernel_rfl) (by kernel_rfl) (by kernel_rfl) (fun _ _ _ h => h) (calm_move rfl (.tmp 5) (.inl rfl) rfl) ?_
        simp only [List.setIfInBounds_toArray, List.set_cons_zero, List.set_cons_succ]
        refine calm_to (i := 6) (t := 22) (v := .pointer (some ⟨b', o' + k * 3, none⟩)) rfl rfl (by kernel_rfl) (by kernel_rfl) (by kernel_rfl) (fun _ _ _ h => h) (calm_of rfl (fun U hU => by go_simp)) ?_
        simp only [List.setIfInBounds_toArray, List.set_cons_zero, List.set_cons_succ]
        refine calm_to (i := 7) (t := 23) (v := .agg #[.int .i64 (jO q k), .int .i64 (jA q k), .int .i64 (jB q k)]) rfl rfl (by kernel_rfl) (by kernel_rfl) (by kernel_rfl) (fun _ _ _ h => h) (calm_entry rfl (.tmp 22) rfl b' _ rfl HG'.out) ?_
        simp only [List.setIfInBounds_toArray, List.set_cons_zero, List.set_cons_succ]
        refine calm_to (i := 8) (t := 24) (v := .bool (!sameI (jO p k, jA p k, jB p k) (jO q k, jA q k, jB q k))) rfl rfl (by kernel_rfl) (by kernel_rfl) (by kernel_rfl) (fun _ _ _ h => h) (calm_of rfl (fun U hU => by have hne := neq_entry; go_simp)) ?_
        simp only [List.setIfInBounds_toArray, List.set_cons_zero, List.set_cons_succ]
        refine calm_done (by kernel_rfl) (fun U hU => ?_) _
        have HB2 := Lib.hid (below3 HB.out hU)
        clear hU
        by_cases hx : sameI (ith p k) (ith q k) = true
        · rw [show sameI (jO p k, jA p k, jB p k) (jO q k, jA q k, jB q k) = true from hx]
          have HX := Lib.hid (all_next (q := fun j => sameI (ith p j) (ith q j)) HEQ.out hx)
          clear hx
          go_wp2
          go_roundw
          case rel => exact ⟨k + 1, by omega, by go_num, HX.out, HB2.out⟩
          case measure => simp [intOf]; omega
        · have hx := bool_no hx
          rw [show sameI (jO p k, jA p k, jB p k) (jO q k, jA q k, jB q k) = false from hx]
          have HX := Lib.hid (sameP_at (p := p) (q := q) (k := k) (fun e => by rw [sameI_yes e] at hx; cases hx))
          clear hx
          go_wp2
          go_ret
          rw [HX.out]
          exact RetB.of rfl HB2.out
      · have HX := Lib.hid (sameP_all HN.out HM.out (fun j hj => HEQ.out j (by omega)))
        go_wp2
        go_ret
        rw [HX.out]
        exact RetB.of rfl HB.out
  · have HX := Lib.hid (sameP_len (p := p) (q := q) (by rw [HN.out, HM.out]; exact hnm))
    have h1 : ((n : Int) != (m : Int)) = true := by simp; omega
    go_enter Try.func20, Try.ntmps20
    go_wp2
    go_ret
    rw [HX.out]
    exact RetB.of rfl (Below.refl _ _)

end Go.Proofs.Ytpfnoohcilefhaa

/-
  Layer 12: tasks as plain numbers; the program's Check.
-/
import Derived.Test.YtlbmlhcphoiaeaaDoorTka
import Derived.Test.YtlbmlhcphoiaeaaDoorCalmX
import Derived.Deep.LoopGhost
import Derived.Deep.QuietTactic
import Derived.BigQuiet
import Derived.Deep.CutBlock
namespace Go.Proofs.YtlbmlhcphoiaeaaDoor
open Go.RowKit

/-- A task. -/
structure Tk where
  id : Int
  tn : Int
  pg : Int
  pc : Int
  un : Int
  k0 : Int
  k1 : Int
  k2 : Int
  k3 : Int
  st : Int
  rn : Int

/-- Its cells. -/
def tc (t : Tk) : Array Value := #[.int .i64 t.id, .int .i64 t.tn, .int .i64 t.pg, .int .i64 t.pc, .int .i64 t.un, .int .i64 t.k0, .int .i64 t.k1, .int .i64 t.k2, .int .i64 t.k3, .int .i64 t.st, .int .i64 t.rn]
def zT : Tk := ⟨0, 0, 0, 0, 0, 0, 0, 0, 0, 0, 0⟩

/-- May it be, but for whom it keeps? -/
def hdT (t : Tk) : Prop := 0 ≤ t.id ∧ (0 ≤ t.tn ∧ t.tn < 16) ∧ (0 ≤ t.pg ∧ t.pg < 16) ∧ (0 ≤ t.pc ∧ t.pc < 33) ∧ (0 ≤ t.un ∧ t.un < 100) ∧ (0 ≤ t.rn ∧ t.rn ≤ 1099511627776) ∧ stB t.st = true
def kpT (t : Tk) : Prop := -1 ≤ t.k0 ∧ -1 ≤ t.k1 ∧ -1 ≤ t.k2 ∧ -1 ≤ t.k3
instance (t : Tk) : Decidable (hdT t) := by unfold hdT; exact inferInstance
instance (t : Tk) : Decidable (kpT t) := by unfold kpT; exact inferInstance
def okT (t : Tk) : Prop := hdT t ∧ kpT t
instance (t : Tk) : Decidable (okT t) := by unfold okT; exact inferInstance
def chkE (t : Tk) : Int := if okT t then 0 else 1
theorem chk_head {t : Tk} (h : ¬ hdT t) : chkE t = 1 := if_neg (fun q => h q.1)
theorem chk_keep {t : Tk} (h : ¬ kpT t) : chkE t = 1 := if_neg (fun q => h q.2)
theorem chk_ok {t : Tk} (h : hdT t) (k : kpT t) : chkE t = 0 := if_pos ⟨h, k⟩

/-- The first ones of those that it keeps may be. -/
def KJ (k0 k1 k2 k3 : Int) (j : Nat) : Prop := (0 < j → -1 ≤ k0) ∧ (1 < j → -1 ≤ k1) ∧ (2 < j → -1 ≤ k2) ∧ (3 < j → -1 ≤ k3)

section
variable {w : World} {g : Nat} {t : TypeId} {c0 c1 c2 c3 c4 c5 c6 c7 c8 c9 c10 : Value}
theorem Bk.c11 (h : Bk w g t #[c0, c1, c2, c3, c4, c5, c6, c7, c8, c9, c10]) :
    w.cell? ⟨g, 0, none⟩ = some c0 ∧ w.cell? ⟨g, 1, none⟩ = some c1 ∧ w.cell? ⟨g, 2, none⟩ = some c2 ∧ w.cell? ⟨g, 3, none⟩ = some c3 ∧ w.cell? ⟨g, 4, none⟩ = some c4 ∧ w.cell? ⟨g, 5, none⟩ = some c5 ∧ w.cell? ⟨g, 6, none⟩ = some c6 ∧ w.cell? ⟨g, 7, none⟩ = some c7 ∧ w.cell? ⟨g, 8, none⟩ = some c8 ∧ w.cell? ⟨g, 9, none⟩ = some c9 ∧ w.cell? ⟨g, 10, none⟩ = some c10 :=
  ⟨h.cell 0, h.cell 1, h.cell 2, h.cell 3, h.cell 4, h.cell 5, h.cell 6, h.cell 7, h.cell 8, h.cell 9, h.cell 10⟩
theorem Bk.f11 {cs : Array Value} (h : Bk w g t cs) :
    w.frozen? ⟨g, 0, none⟩ = false ∧ w.frozen? ⟨g, 1, none⟩ = false ∧ w.frozen? ⟨g, 2, none⟩ = false ∧ w.frozen? ⟨g, 3, none⟩ = false ∧ w.frozen? ⟨g, 4, none⟩ = false ∧ w.frozen? ⟨g, 5, none⟩ = false ∧ w.frozen? ⟨g, 6, none⟩ = false ∧ w.frozen? ⟨g, 7, none⟩ = false ∧ w.frozen? ⟨g, 8, none⟩ = false ∧ w.frozen? ⟨g, 9, none⟩ = false ∧ w.frozen? ⟨g, 10, none⟩ = false :=
  ⟨h.frozen 0, h.frozen 1, h.frozen 2, h.frozen 3, h.frozen 4, h.frozen 5, h.frozen 6, h.frozen 7, h.frozen 8, h.frozen 9, h.frozen 10⟩
end

theorem bel_no {n b : Int} (h : ¬ (0 ≤ n ∧ n < b)) : (decide (0 ≤ n) && decide (n < b)) = false := by
  rw [← Bool.not_eq_true, Bool.and_eq_true, decide_eq_true_eq, decide_eq_true_eq]; exact h
theorem bel_yes {n b : Int} (h : ¬ ¬ (0 ≤ n ∧ n < b)) : (decide (0 ≤ n) && decide (n < b)) = true := by
  rw [Bool.and_eq_true, decide_eq_true_eq, decide_eq_true_eq]; exact Classical.not_not.1 h
theorem stB_no {n : Int} (h : ¬ stB n = true) : stB n = false := by simpa using h
theorem stB_yes {n : Int} (h : ¬ ¬ stB n = true) : stB n = true := Classical.not_not.1 h

set_option maxHeartbeats 4000000 in
theorem chk_any (t : Tk) (w : World) : Calls Tryd.prog 21 #[.agg (tc t)] w (RetB (.int .i64 (chkE t)) w) := by
  obtain ⟨id, tn, pg, pc, un, k0, k1, k2, k3, st, rn⟩ := t
  unfold tc
  dsimp only
  obtain ⟨V, hV⟩ : ∃ V, w.alloc (.cells #[.int .i64 id, .int .i64 tn, .int .i64 pg, .int .i64 pc, .int .i64 un, .int .i64 k0, .int .i64 k1, .int .i64 k2, .int .i64 k3, .int .i64 st, .int .i64 rn] 24) = V := ⟨_, rfl⟩
  have kb := Bk.new w 24 #[.int .i64 id, .int .i64 tn, .int .i64 pg, .int .i64 pc, .int .i64 un, .int .i64 k0, .int .i64 k1, .int .i64 k2, .int .i64 k3, .int .i64 st, .int .i64 rn]
  have bb := (Below.refl w.heap.size w).alloc (Nat.le_refl _) (.cells #[.int .i64 id, .int .i64 tn, .int .i64 pg, .int .i64 pc, .int .i64 un, .int .i64 k0, .int .i64 k1, .int .i64 k2, .int .i64 k3, .int .i64 st, .int .i64 rn] 24)
  rw [hV] at kb bb
  have HV := Lib.hid hV
  have BB := Lib.hid bb
  have KB := Lib.hid kb
  obtain ⟨q0, q1, q2, q3, q4, q5, q6, q7, q8, q9, q10⟩ := kb.c11
  have lq := kb.lt
  clear hV kb bb
  by_cases f0 : id < 0
  · rw [chk_head (t := ⟨id, tn, pg, pc, un, k0, k1, k2, k3, st, rn⟩) (fun q => by have := q.1; dsimp only at this; omega)]
    go_enter Tryd.func21, Tryd.ntmps21
    go_upto_region 1 with fail
    rw [HV.out]
    clear HV
    go_wp2
    go_ret
    exact ⟨rfl, BB.out⟩
  · by_cases f1 : ¬ (0 ≤ tn ∧ tn < 16)
    · rw [chk_head (t := ⟨id, tn, pg, pc, un, k0, k1, k2, k3, st, rn⟩) (fun q => f1 q.2.1)]
      replace f0 := decide_eq_false f0
      have g1 := Lib.hid (bel_no f1)
      clear f1
      go_enter Tryd.func21, Tryd.ntmps21
      go_upto_region 1 with fail
      rw [HV.out]
      clear HV
      go_wp2_with fail
      refine (bel_any tn 16 _).mono ?_
      rw [g1.out]
      rintro e w1 ⟨rfl, rfl⟩
      go_wp2
      go_ret
      exact ⟨rfl, BB.out⟩
    · by_cases f2 : ¬ (0 ≤ pg ∧ pg < 16)
      · rw [chk_head (t := ⟨id, tn, pg, pc, un, k0, k1, k2, k3, st, rn⟩) (fun q => f2 q.2.2.1)]
        replace f0 := decide_eq_false f0
        have g1 := Lib.hid (bel_yes f1)
        clear f1
        have g2 := Lib.hid (bel_no f2)
        clear f2
        go_enter Tryd.func21, Tryd.ntmps21
        go_upto_region 1 with fail
        rw [HV.out]
        clear HV
        go_wp2_with fail
        refine (bel_any tn 16 _).mono ?_
        rw [g1.out]
        rintro e w1 ⟨rfl, rfl⟩
        go_wp2_with fail
        refine (bel_any pg 16 _).mono ?_
        rw [g2.out]
        rintro e w1 ⟨rfl, rfl⟩
        go_wp2
        go_ret
        exact ⟨rfl, BB.out⟩
      · by_cases f3 : ¬ (0 ≤ pc ∧ pc < 33)
        · rw [chk_head (t := ⟨id, tn, pg, pc, un, k0, k1, k2, k3, st, rn⟩) (fun q => f3 q.2.2.2.1)]
          replace f0 := decide_eq_false f0
          have g1 := Lib.hid (bel_yes f1)
          clear f1
          have g2 := Lib.hid (bel_yes f2)
          clear f2
          have g3 := Lib.hid (bel_no f3)
          clear f3
          go_enter Tryd.func21, Tryd.ntmps21
          go_upto_region 1 with fail
          rw [HV.out]
          clear HV
          go_wp2_with fail
          refine (bel_any tn 16 _).mono ?_
          rw [g1.out]
          rintro e w1 ⟨rfl, rfl⟩
          go_wp2_with fail
          refine (bel_any pg 16 _).mono ?_
          rw [g2.out]
          rintro e w1 ⟨rfl, rfl⟩
          go_wp2_with fail
          refine (bel_any pc 33 _).mono ?_
          rw [g3.out]
          rintro e w1 ⟨rfl, rfl⟩
          go_wp2
          go_ret
          exact ⟨rfl, BB.out⟩
        · by_cases f4 : ¬ (0 ≤ un ∧ un < 100)
          · rw [chk_head (t := ⟨id, tn, pg, pc, un, k0, k1, k2, k3, st, rn⟩) (fun q => f4 q.2.2.2.2.1)]
            replace f0 := decide_eq_false f0
            have g1 := Lib.hid (bel_yes f1)
            clear f1
            have g2 := Lib.hid (bel_yes f2)
            clear f2
            have g3 := Lib.hid (bel_yes f3)
            clear f3
            have g4 := Lib.hid (bel_no f4)
            clear f4
            go_enter Tryd.func21, Tryd.ntmps21
            go_upto_region 1 with fail
            rw [HV.out]
            clear HV
            go_wp2_with fail
            refine (bel_any tn 16 _).mono ?_
            rw [g1.out]
            rintro e w1 ⟨rfl, rfl⟩
            go_wp2_with fail
            refine (bel_any pg 16 _).mono ?_
            rw [g2.out]
            rintro e w1 ⟨rfl, rfl⟩
            go_wp2_with fail
            refine (bel_any pc 33 _).mono ?_
            rw [g3.out]
            rintro e w1 ⟨rfl, rfl⟩
            go_wp2_with fail
            refine (bel_any un 100 _).mono ?_
            rw [g4.out]
            rintro e w1 ⟨rfl, rfl⟩
            go_wp2
            go_ret
            exact ⟨rfl, BB.out⟩
          · by_cases f5 : rn < 0
            · rw [chk_head (t := ⟨id, tn, pg, pc, un, k0, k1, k2, k3, st, rn⟩) (fun q => by have := q.2.2.2.2.2.1.1; dsimp only at this; omega)]
              replace f0 := decide_eq_false f0
              have g1 := Lib.hid (bel_yes f1)
              clear f1
              have g2 := Lib.hid (bel_yes f2)
              clear f2
              have g3 := Lib.hid (bel_yes f3)
              clear f3
              have g4 := Lib.hid (bel_yes f4)
              clear f4
              go_enter Tryd.func21, Tryd.ntmps21
              go_upto_region 1 with fail
              rw [HV.out]
              clear HV
              go_wp2_with fail
              refine (bel_any tn 16 _).mono ?_
              rw [g1.out]
              rintro e w1 ⟨rfl, rfl⟩
              go_wp2_with fail
              refine (bel_any pg 16 _).mono ?_
              rw [g2.out]
              rintro e w1 ⟨rfl, rfl⟩
              go_wp2_with fail
              refine (bel_any pc 33 _).mono ?_
              rw [g3.out]
              rintro e w1 ⟨rfl, rfl⟩
              go_wp2_with fail
              refine (bel_any un 100 _).mono ?_
              rw [g4.out]
              rintro e w1 ⟨rfl, rfl⟩
              go_wp2
              go_ret
              exact ⟨rfl, BB.out⟩
            · by_cases f6 : 1099511627776 < rn
              · rw [chk_head (t := ⟨id, tn, pg, pc, un, k0, k1, k2, k3, st, rn⟩) (fun q => by have := q.2.2.2.2.2.1.2; dsimp only at this; omega)]
                replace f0 := decide_eq_false f0
                have g1 := Lib.hid (bel_yes f1)
                clear f1
                have g2 := Lib.hid (bel_yes f2)
                clear f2
                have g3 := Lib.hid (bel_yes f3)
                clear f3
                have g4 := Lib.hid (bel_yes f4)
                clear f4
                replace f5 := decide_eq_false f5
                go_enter Tryd.func21, Tryd.ntmps21
                go_upto_region 1 with fail
                rw [HV.out]
                clear HV
                go_wp2_with fail
                refine (bel_any tn 16 _).mono ?_
                rw [g1.out]
                rintro e w1 ⟨rfl, rfl⟩
                go_wp2_with fail
                refine (bel_any pg 16 _).mono ?_
                rw [g2.out]
                rintro e w1 ⟨rfl, rfl⟩
                go_wp2_with fail
                refine (bel_any pc 33 _).mono ?_
                rw [g3.out]
                rintro e w1 ⟨rfl, rfl⟩
                go_wp2_with fail
                refine (bel_any un 100 _).mono ?_
                rw [g4.out]
                rintro e w1 ⟨rfl, rfl⟩
                go_wp2
                go_ret
                exact ⟨rfl, BB.out⟩
              · by_cases f7 : ¬ stB st = true
                · rw [chk_head (t := ⟨id, tn, pg, pc, un, k0, k1, k2, k3, st, rn⟩) (fun q => f7 q.2.2.2.2.2.2)]
                  replace f0 := decide_eq_false f0
                  have g1 := Lib.hid (bel_yes f1)
                  clear f1
                  have g2 := Lib.hid (bel_yes f2)
                  clear f2
                  have g3 := Lib.hid (bel_yes f3)
                  clear f3
                  have g4 := Lib.hid (bel_yes f4)
                  clear f4
                  replace f5 := decide_eq_false f5
                  replace f6 := decide_eq_false f6
                  have g7 := Lib.hid (stB_no f7)
                  clear f7
                  go_enter Tryd.func21, Tryd.ntmps21
                  go_upto_region 1 with fail
                  rw [HV.out]
                  clear HV
                  go_wp2_with fail
                  refine (bel_any tn 16 _).mono ?_
                  rw [g1.out]
                  rintro e w1 ⟨rfl, rfl⟩
                  go_wp2_with fail
                  refine (bel_any pg 16 _).mono ?_
                  rw [g2.out]
                  rintro e w1 ⟨rfl, rfl⟩
                  go_wp2_with fail
                  refine (bel_any pc 33 _).mono ?_
                  rw [g3.out]
                  rintro e w1 ⟨rfl, rfl⟩
                  go_wp2_with fail
                  refine (bel_any un 100 _).mono ?_
                  rw [g4.out]
                  rintro e w1 ⟨rfl, rfl⟩
                  go_wp2_with fail
                  refine (st_any st _).mono ?_
                  rw [g7.out]
                  rintro e w1 ⟨rfl, rfl⟩
                  go_wp2
                  go_ret
                  exact ⟨rfl, BB.out⟩
                · have hh : hdT ⟨id, tn, pg, pc, un, k0, k1, k2, k3, st, rn⟩ := ⟨by show 0 ≤ id; omega, Classical.not_not.1 f1, Classical.not_not.1 f2, Classical.not_not.1 f3, Classical.not_not.1 f4, ⟨by show 0 ≤ rn; omega, by show rn ≤ 1099511627776; omega⟩, Classical.not_not.1 f7⟩
                  have HH := Lib.hid hh
                  have K0 : Hid (k0 < -1 → chkE ⟨id, tn, pg, pc, un, k0, k1, k2, k3, st, rn⟩ = 1) := Lib.hid (fun h => chk_keep (fun q => absurd q.1 (by show ¬ (-1 ≤ k0); omega)))
                  have K1 : Hid (k1 < -1 → chkE ⟨id, tn, pg, pc, un, k0, k1, k2, k3, st, rn⟩ = 1) := Lib.hid (fun h => chk_keep (fun q => absurd q.2.1 (by show ¬ (-1 ≤ k1); omega)))
                  have K2 : Hid (k2 < -1 → chkE ⟨id, tn, pg, pc, un, k0, k1, k2, k3, st, rn⟩ = 1) := Lib.hid (fun h => chk_keep (fun q => absurd q.2.2.1 (by show ¬ (-1 ≤ k2); omega)))
                  have K3 : Hid (k3 < -1 → chkE ⟨id, tn, pg, pc, un, k0, k1, k2, k3, st, rn⟩ = 1) := Lib.hid (fun h => chk_keep (fun q => absurd q.2.2.2 (by show ¬ (-1 ≤ k3); omega)))
                  have KO : Hid (-1 ≤ k0 → -1 ≤ k1 → -1 ≤ k2 → -1 ≤ k3 → chkE ⟨id, tn, pg, pc, un, k0, k1, k2, k3, st, rn⟩ = 0) := Lib.hid (fun a b c d => chk_ok hh ⟨a, b, c, d⟩)
                  generalize chkE ⟨id, tn, pg, pc, un, k0, k1, k2, k3, st, rn⟩ = R at K0 K1 K2 K3 KO ⊢
                  clear hh HH
                  replace f0 := decide_eq_false f0
                  have g1 := Lib.hid (bel_yes f1)
                  clear f1
                  have g2 := Lib.hid (bel_yes f2)
                  clear f2
                  have g3 := Lib.hid (bel_yes f3)
                  clear f3
                  have g4 := Lib.hid (bel_yes f4)
                  clear f4
                  replace f5 := decide_eq_false f5
                  replace f6 := decide_eq_false f6
                  have g7 := Lib.hid (stB_yes f7)
                  clear f7
                  go_enter Tryd.func21, Tryd.ntmps21
                  go_upto_region 1 with fail
                  rw [HV.out]
                  clear HV
                  go_wp2_with fail
                  refine (bel_any tn 16 _).mono ?_
                  rw [g1.out]
                  rintro e w1 ⟨rfl, rfl⟩
                  go_wp2_with fail
                  refine (bel_any pg 16 _).mono ?_
                  rw [g2.out]
                  rintro e w1 ⟨rfl, rfl⟩
                  go_wp2_with fail
                  refine (bel_any pc 33 _).mono ?_
                  rw [g3.out]
                  rintro e w1 ⟨rfl, rfl⟩
                  go_wp2_with fail
                  refine (bel_any un 100 _).mono ?_
                  rw [g4.out]
                  rintro e w1 ⟨rfl, rfl⟩
                  go_wp2_with fail
                  refine (st_any st _).mono ?_
                  rw [g7.out]
                  rintro e w1 ⟨rfl, rfl⟩
                  go_wp2_with fail
                  go_loopw [49] (fun t wr => wr = V ∧ ∃ j : Nat, j ≤ 4 ∧ t = .int .i64 j ∧ Hid (KJ k0 k1 k2 k3 j)) (fun t _ => 4 - (intOf t).toNat)
                  case atStart => exact ⟨rfl, 0, by omega, rfl, Lib.hid (by unfold KJ; omega)⟩
                  case round =>
                    obtain ⟨rfl, j, hj, rfl, HJ⟩ := hrel
                    have hj5 : j = 0 ∨ j = 1 ∨ j = 2 ∨ j = 3 ∨ j = 4 := by omega
                    clear hj
                    rcases hj5 with rfl | rfl | rfl | rfl | rfl
                    · have ix : ∀ w : World, (Instr.index 22 (.agg #[.int .i64 k0, .int .i64 k1, .int .i64 k2, .int .i64 k3]) (.int .i64 0)).run Tryd.prog w = .ok (.int .i64 k0) w := fun _ => by kernel_rfl
                      by_cases hk : -1 ≤ k0
                      · have HJ2 : Hid (KJ k0 k1 k2 k3 1) := Lib.hid (by have := HJ.out; unfold KJ at this ⊢; omega)
                        clear HJ
                        have HD := Lib.hid (decide_eq_true hk)
                        clear hk
                        go_wp2_with fail
                        refine (mayk_any k0 _).mono ?_
                        rw [HD.out]
                        rintro e w1 ⟨rfl, rfl⟩
                        go_wp2_with fail
                        go_roundw
                        case rel => exact ⟨trivial, 1, by omega, rfl, HJ2⟩
                        case measure => simp [intOf]
                      · have HR := Lib.hid (K0.out (by omega))
                        have HD := Lib.hid (decide_eq_false hk)
                        clear hk
                        go_wp2_with fail
                        refine (mayk_any k0 _).mono ?_
                        rw [HD.out]
                        rintro e w1 ⟨rfl, rfl⟩
                        go_wp2
                        go_ret
                        exact ⟨by rw [HR.out]; rfl, BB.out⟩
                    · have ix : ∀ w : World, (Instr.index 22 (.agg #[.int .i64 k0, .int .i64 k1, .int .i64 k2, .int .i64 k3]) (.int .i64 1)).run Tryd.prog w = .ok (.int .i64 k1) w := fun _ => by kernel_rfl
                      by_cases hk : -1 ≤ k1
                      · have HJ2 : Hid (KJ k0 k1 k2 k3 2) := Lib.hid (by have := HJ.out; unfold KJ at this ⊢; omega)
                        clear HJ
                        have HD := Lib.hid (decide_eq_true hk)
                        clear hk
                        go_wp2_with fail
                        refine (mayk_any k1 _).mono ?_
                        rw [HD.out]
                        rintro e w1 ⟨rfl, rfl⟩
                        go_wp2_with fail
                        go_roundw
                        case rel => exact ⟨trivial, 2, by omega, rfl, HJ2⟩
                        case measure => simp [intOf]
                      · have HR := Lib.hid (K1.out (by omega))
                        have HD := Lib.hid (decide_eq_false hk)
                        clear hk
                        go_wp2_with fail
                        refine (mayk_any k1 _).mono ?_
                        rw [HD.out]
                        rintro e w1 ⟨rfl, rfl⟩
                        go_wp2
                        go_ret
                        exact ⟨by rw [HR.out]; rfl, BB.out⟩
                    · have ix : ∀ w : World, (Instr.index 22 (.agg #[.int .i64 k0, .int .i64 k1, .int .i64 k2, .int .i64 k3]) (.int .i64 2)).run Tryd.prog w = .ok (.int .i64 k2) w := fun _ => by kernel_rfl
                      by_cases hk : -1 ≤ k2
                      · have HJ2 : Hid (KJ k0 k1 k2 k3 3) := Lib.hid (by have := HJ.out; unfold KJ at this ⊢; omega)
                        clear HJ
                        have HD := Lib.hid (decide_eq_true hk)
                        clear hk
                        go_wp2_with fail
                        refine (mayk_any k2 _).mono ?_
                        rw [HD.out]
                        rintro e w1 ⟨rfl, rfl⟩
                        go_wp2_with fail
                        go_roundw
                        case rel => exact ⟨trivial, 3, by omega, rfl, HJ2⟩
                        case measure => simp [intOf]
                      · have HR := Lib.hid (K2.out (by omega))
                        have HD := Lib.hid (decide_eq_false hk)
                        clear hk
                        go_wp2_with fail
                        refine (mayk_any k2 _).mono ?_
                        rw [HD.out]
                        rintro e w1 ⟨rfl, rfl⟩
                        go_wp2
                        go_ret
                        exact ⟨by rw [HR.out]; rfl, BB.out⟩
                    · have ix : ∀ w : World, (Instr.index 22 (.agg #[.int .i64 k0, .int .i64 k1, .int .i64 k2, .int .i64 k3]) (.int .i64 3)).run Tryd.prog w = .ok (.int .i64 k3) w := fun _ => by kernel_rfl
                      by_cases hk : -1 ≤ k3
                      · have HJ2 : Hid (KJ k0 k1 k2 k3 4) := Lib.hid (by have := HJ.out; unfold KJ at this ⊢; omega)
                        clear HJ
                        have HD := Lib.hid (decide_eq_true hk)
                        clear hk
                        go_wp2_with fail
                        refine (mayk_any k3 _).mono ?_
                        rw [HD.out]
                        rintro e w1 ⟨rfl, rfl⟩
                        go_wp2_with fail
                        go_roundw
                        case rel => exact ⟨trivial, 4, by omega, rfl, HJ2⟩
                        case measure => simp [intOf]
                      · have HR := Lib.hid (K3.out (by omega))
                        have HD := Lib.hid (decide_eq_false hk)
                        clear hk
                        go_wp2_with fail
                        refine (mayk_any k3 _).mono ?_
                        rw [HD.out]
                        rintro e w1 ⟨rfl, rfl⟩
                        go_wp2
                        go_ret
                        exact ⟨by rw [HR.out]; rfl, BB.out⟩
                    · have HR := Lib.hid (KO.out (by have := HJ.out; unfold KJ at this; omega) (by have := HJ.out; unfold KJ at this; omega) (by have := HJ.out; unfold KJ at this; omega) (by have := HJ.out; unfold KJ at this; omega))
                      clear HJ
                      go_wp2
                      go_ret
                      exact ⟨by rw [HR.out]; rfl, BB.out⟩

end Go.Proofs.YtlbmlhcphoiaeaaDoor

/-
  Layer 12: the document's Check.
-/
import Derived.Test.YtlbmlhcphoiaeaaDoorTkb
namespace Go.Proofs.YtlbmlhcphoiaeaaDoor
open Go.RowKit

set_option maxHeartbeats 4000000 in
theorem rchk_any (t : Tk) (w : World) : Calls Tryd.prog 38 #[.agg (tc t)] w (RetB (.int .i64 (chkE t)) w) := by
  obtain ⟨id, tn, pg, pc, un, k0, k1, k2, k3, st, rn⟩ := t
  unfold tc
  dsimp only
  obtain ⟨V, hV⟩ : ∃ V, w.alloc (.cells #[.int .i64 id, .int .i64 tn, .int .i64 pg, .int .i64 pc, .int .i64 un, .int .i64 k0, .int .i64 k1, .int .i64 k2, .int .i64 k3, .int .i64 st, .int .i64 rn] 24) = V := ⟨_, rfl⟩
  have kb := Bk.new w 24 #[.int .i64 id, .int .i64 tn, .int .i64 pg, .int .i64 pc, .int .i64 un, .int .i64 k0, .int .i64 k1, .int .i64 k2, .int .i64 k3, .int .i64 st, .int .i64 rn]
  have bb := (Below.refl w.heap.size w).alloc (Nat.le_refl _) (.cells #[.int .i64 id, .int .i64 tn, .int .i64 pg, .int .i64 pc, .int .i64 un, .int .i64 k0, .int .i64 k1, .int .i64 k2, .int .i64 k3, .int .i64 st, .int .i64 rn] 24)
  rw [hV] at kb bb
  have HV := Lib.hid hV
  have BB := Lib.hid bb
  have KB := Lib.hid kb
  obtain ⟨q0, q1, q2, q3, q4, q5, q6, q7, q8, q9, q10⟩ := kb.c11
  have lq := kb.lt
  clear hV kb bb
  by_cases f0 : id < 0
  · rw [chk_head (t := ⟨id, tn, pg, pc, un, k0, k1, k2, k3, st, rn⟩) (fun q => by have := q.1; dsimp only at this; omega)]
    go_enter Tryd.func38, Tryd.ntmps38
    go_upto_region 1 with fail
    rw [HV.out]
    clear HV
    go_wp2
    go_ret
    exact ⟨rfl, BB.out⟩
  · by_cases f1 : tn < 0
    · rw [chk_head (t := ⟨id, tn, pg, pc, un, k0, k1, k2, k3, st, rn⟩) (fun q => by have := q.2.1.1; dsimp only at this; omega)]
      replace f0 := decide_eq_false f0
      go_enter Tryd.func38, Tryd.ntmps38
      go_upto_region 1 with fail
      rw [HV.out]
      clear HV
      go_wp2
      go_ret
      exact ⟨rfl, BB.out⟩
    · by_cases f2 : 15 < tn
      · rw [chk_head (t := ⟨id, tn, pg, pc, un, k0, k1, k2, k3, st, rn⟩) (fun q => by have := q.2.1.2; dsimp only at this; omega)]
        replace f0 := decide_eq_false f0
        replace f1 := decide_eq_false f1
        go_enter Tryd.func38, Tryd.ntmps38
        go_upto_region 1 with fail
        rw [HV.out]
        clear HV
        go_wp2
        go_ret
        exact ⟨rfl, BB.out⟩
      · by_cases f3 : pg < 0
        · rw [chk_head (t := ⟨id, tn, pg, pc, un, k0, k1, k2, k3, st, rn⟩) (fun q => by have := q.2.2.1.1; dsimp only at this; omega)]
          replace f0 := decide_eq_false f0
          replace f1 := decide_eq_false f1
          replace f2 := decide_eq_false f2
          go_enter Tryd.func38, Tryd.ntmps38
          go_upto_region 1 with fail
          rw [HV.out]
          clear HV
          go_wp2
          go_ret
          exact ⟨rfl, BB.out⟩
        · by_cases f4 : 15 < pg
          · rw [chk_head (t := ⟨id, tn, pg, pc, un, k0, k1, k2, k3, st, rn⟩) (fun q => by have := q.2.2.1.2; dsimp only at this; omega)]
            replace f0 := decide_eq_false f0
            replace f1 := decide_eq_false f1
            replace f2 := decide_eq_false f2
            replace f3 := decide_eq_false f3
            go_enter Tryd.func38, Tryd.ntmps38
            go_upto_region 1 with fail
            rw [HV.out]
            clear HV
            go_wp2
            go_ret
            exact ⟨rfl, BB.out⟩
          · by_cases f5 : pc < 0
            · rw [chk_head (t := ⟨id, tn, pg, pc, un, k0, k1, k2, k3, st, rn⟩) (fun q => by have := q.2.2.2.1.1; dsimp only at this; omega)]
              replace f0 := decide_eq_false f0
              replace f1 := decide_eq_false f1
              replace f2 := decide_eq_false f2
              replace f3 := decide_eq_false f3
              replace f4 := decide_eq_false f4
              go_enter Tryd.func38, Tryd.ntmps38
              go_upto_region 1 with fail
              rw [HV.out]
              clear HV
              go_wp2
              go_ret
              exact ⟨rfl, BB.out⟩
            · by_cases f6 : 32 < pc
              · rw [chk_head (t := ⟨id, tn, pg, pc, un, k0, k1, k2, k3, st, rn⟩) (fun q => by have := q.2.2.2.1.2; dsimp only at this; omega)]
                replace f0 := decide_eq_false f0
                replace f1 := decide_eq_false f1
                replace f2 := decide_eq_false f2
                replace f3 := decide_eq_false f3
                replace f4 := decide_eq_false f4
                replace f5 := decide_eq_false f5
                go_enter Tryd.func38, Tryd.ntmps38
                go_upto_region 1 with fail
                rw [HV.out]
                clear HV
                go_wp2
                go_ret
                exact ⟨rfl, BB.out⟩
              · by_cases f7 : un < 0
                · rw [chk_head (t := ⟨id, tn, pg, pc, un, k0, k1, k2, k3, st, rn⟩) (fun q => by have := q.2.2.2.2.1.1; dsimp only at this; omega)]
                  replace f0 := decide_eq_false f0
                  replace f1 := decide_eq_false f1
                  replace f2 := decide_eq_false f2
                  replace f3 := decide_eq_false f3
                  replace f4 := decide_eq_false f4
                  replace f5 := decide_eq_false f5
                  replace f6 := decide_eq_false f6
                  go_enter Tryd.func38, Tryd.ntmps38
                  go_upto_region 1 with fail
                  rw [HV.out]
                  clear HV
                  go_wp2
                  go_ret
                  exact ⟨rfl, BB.out⟩
                · by_cases f8 : 99 < un
                  · rw [chk_head (t := ⟨id, tn, pg, pc, un, k0, k1, k2, k3, st, rn⟩) (fun q => by have := q.2.2.2.2.1.2; dsimp only at this; omega)]
                    replace f0 := decide_eq_false f0
                    replace f1 := decide_eq_false f1
                    replace f2 := decide_eq_false f2
                    replace f3 := decide_eq_false f3
                    replace f4 := decide_eq_false f4
                    replace f5 := decide_eq_false f5
                    replace f6 := decide_eq_false f6
                    replace f7 := decide_eq_false f7
                    go_enter Tryd.func38, Tryd.ntmps38
                    go_upto_region 1 with fail
                    rw [HV.out]
                    clear HV
                    go_wp2
                    go_ret
                    exact ⟨rfl, BB.out⟩
                  · by_cases f9 : ¬ stB st = true
                    · rw [chk_head (t := ⟨id, tn, pg, pc, un, k0, k1, k2, k3, st, rn⟩) (fun q => f9 q.2.2.2.2.2.2)]
                      replace f0 := decide_eq_false f0
                      replace f1 := decide_eq_false f1
                      replace f2 := decide_eq_false f2
                      replace f3 := decide_eq_false f3
                      replace f4 := decide_eq_false f4
                      replace f5 := decide_eq_false f5
                      replace f6 := decide_eq_false f6
                      replace f7 := decide_eq_false f7
                      replace f8 := decide_eq_false f8
                      have g9 := Lib.hid (stB_no f9)
                      clear f9
                      go_enter Tryd.func38, Tryd.ntmps38
                      go_upto_region 1 with fail
                      rw [HV.out]
                      clear HV
                      go_wp2_with fail
                      refine (rst_any st _).mono ?_
                      rw [g9.out]
                      rintro e w1 ⟨rfl, rfl⟩
                      go_wp2
                      go_ret
                      exact ⟨rfl, BB.out⟩
                    · by_cases f10 : rn < 0
                      · rw [chk_head (t := ⟨id, tn, pg, pc, un, k0, k1, k2, k3, st, rn⟩) (fun q => by have := q.2.2.2.2.2.1.1; dsimp only at this; omega)]
                        replace f0 := decide_eq_false f0
                        replace f1 := decide_eq_false f1
                        replace f2 := decide_eq_false f2
                        replace f3 := decide_eq_false f3
                        replace f4 := decide_eq_false f4
                        replace f5 := decide_eq_false f5
                        replace f6 := decide_eq_false f6
                        replace f7 := decide_eq_false f7
                        replace f8 := decide_eq_false f8
                        have g9 := Lib.hid (stB_yes f9)
                        clear f9
                        go_enter Tryd.func38, Tryd.ntmps38
                        go_upto_region 1 with fail
                        rw [HV.out]
                        clear HV
                        go_wp2_with fail
                        refine (rst_any st _).mono ?_
                        rw [g9.out]
                        rintro e w1 ⟨rfl, rfl⟩
                        go_wp2
                        go_ret
                        exact ⟨rfl, BB.out⟩
                      · by_cases f11 : 1099511627776 < rn
                        · rw [chk_head (t := ⟨id, tn, pg, pc, un, k0, k1, k2, k3, st, rn⟩) (fun q => by have := q.2.2.2.2.2.1.2; dsimp only at this; omega)]
                          replace f0 := decide_eq_false f0
                          replace f1 := decide_eq_false f1
                          replace f2 := decide_eq_false f2
                          replace f3 := decide_eq_false f3
                          replace f4 := decide_eq_false f4
                          replace f5 := decide_eq_false f5
                          replace f6 := decide_eq_false f6
                          replace f7 := decide_eq_false f7
                          replace f8 := decide_eq_false f8
                          have g9 := Lib.hid (stB_yes f9)
                          clear f9
                          replace f10 := decide_eq_false f10
                          go_enter Tryd.func38, Tryd.ntmps38
                          go_upto_region 1 with fail
                          rw [HV.out]
                          clear HV
                          go_wp2_with fail
                          refine (rst_any st _).mono ?_
                          rw [g9.out]
                          rintro e w1 ⟨rfl, rfl⟩
                          go_wp2
                          go_ret
                          exact ⟨rfl, BB.out⟩
                        · have hh : hdT ⟨id, tn, pg, pc, un, k0, k1, k2, k3, st, rn⟩ := ⟨by show 0 ≤ id; omega, ⟨by show 0 ≤ tn; omega, by show tn < 16; omega⟩, ⟨by show 0 ≤ pg; omega, by show pg < 16; omega⟩, ⟨by show 0 ≤ pc; omega, by show pc < 33; omega⟩, ⟨by show 0 ≤ un; omega, by show un < 100; omega⟩, ⟨by show 0 ≤ rn; omega, by show rn ≤ 1099511627776; omega⟩, Classical.not_not.1 f9⟩
                          have HH := Lib.hid hh
                          have K0 : Hid (k0 < -1 → chkE ⟨id, tn, pg, pc, un, k0, k1, k2, k3, st, rn⟩ = 1) := Lib.hid (fun h => chk_keep (fun q => absurd q.1 (by show ¬ (-1 ≤ k0); omega)))
                          have K1 : Hid (k1 < -1 → chkE ⟨id, tn, pg, pc, un, k0, k1, k2, k3, st, rn⟩ = 1) := Lib.hid (fun h => chk_keep (fun q => absurd q.2.1 (by show ¬ (-1 ≤ k1); omega)))
                          have K2 : Hid (k2 < -1 → chkE ⟨id, tn, pg, pc, un, k0, k1, k2, k3, st, rn⟩ = 1) := Lib.hid (fun h => chk_keep (fun q => absurd q.2.2.1 (by show ¬ (-1 ≤ k2); omega)))
                          have K3 : Hid (k3 < -1 → chkE ⟨id, tn, pg, pc, un, k0, k1, k2, k3, st, rn⟩ = 1) := Lib.hid (fun h => chk_keep (fun q => absurd q.2.2.2 (by show ¬ (-1 ≤ k3); omega)))
                          have KO : Hid (-1 ≤ k0 → -1 ≤ k1 → -1 ≤ k2 → -1 ≤ k3 → chkE ⟨id, tn, pg, pc, un, k0, k1, k2, k3, st, rn⟩ = 0) := Lib.hid (fun a b c d => chk_ok hh ⟨a, b, c, d⟩)
                          generalize chkE ⟨id, tn, pg, pc, un, k0, k1, k2, k3, st, rn⟩ = R at K0 K1 K2 K3 KO ⊢
                          clear hh HH
                          replace f0 := decide_eq_false f0
                          replace f1 := decide_eq_false f1
                          replace f2 := decide_eq_false f2
                          replace f3 := decide_eq_false f3
                          replace f4 := decide_eq_false f4
                          replace f5 := decide_eq_false f5
                          replace f6 := decide_eq_false f6
                          replace f7 := decide_eq_false f7
                          replace f8 := decide_eq_false f8
                          have g9 := Lib.hid (stB_yes f9)
                          clear f9
                          replace f10 := decide_eq_false f10
                          replace f11 := decide_eq_false f11
                          go_enter Tryd.func38, Tryd.ntmps38
                          go_upto_region 1 with fail
                          rw [HV.out]
                          clear HV
                          go_wp2_with fail
                          refine (rst_any st _).mono ?_
                          rw [g9.out]
                          rintro e w1 ⟨rfl, rfl⟩
                          go_wp2_with fail
                          go_loopw [66] (fun t wr => wr = V ∧ ∃ j : Nat, j ≤ 4 ∧ t = .int .i64 j ∧ Hid (KJ k0 k1 k2 k3 j)) (fun t _ => 4 - (intOf t).toNat)
                          case atStart => exact ⟨rfl, 0, by omega, rfl, Lib.hid (by unfold KJ; omega)⟩
                          case round =>
                            obtain ⟨rfl, j, hj, rfl, HJ⟩ := hrel
                            have hj5 : j = 0 ∨ j = 1 ∨ j = 2 ∨ j = 3 ∨ j = 4 := by omega
                            clear hj
                            rcases hj5 with rfl | rfl | rfl | rfl | rfl
                            · have ix : ∀ w : World, (Instr.index 22 (.agg #[.int .i64 k0, .int .i64 k1, .int .i64 k2, .int .i64 k3]) (.int .i64 0)).run Tryd.prog w = .ok (.int .i64 k0) w := fun _ => by kernel_rfl
                              by_cases hk : -1 ≤ k0
                              · have HJ2 : Hid (KJ k0 k1 k2 k3 1) := Lib.hid (by have := HJ.out; unfold KJ at this ⊢; omega)
                                clear HJ
                                have hk2 : ¬ (k0 < -1) := by omega
                                clear hk
                                go_wp2_with fail
                                go_roundw
                                case rel => exact ⟨trivial, 1, by omega, rfl, HJ2⟩
                                case measure => simp [intOf]
                              · have HR := Lib.hid (K0.out (by omega))
                                have hk2 : k0 < -1 := by omega
                                clear hk
                                go_wp2
                                go_ret
                                exact ⟨by rw [HR.out]; rfl, BB.out⟩
                            · have ix : ∀ w : World, (Instr.index 22 (.agg #[.int .i64 k0, .int .i64 k1, .int .i64 k2, .int .i64 k3]) (.int .i64 1)).run Tryd.prog w = .ok (.int .i64 k1) w := fun _ => by kernel_rfl
                              by_cases hk : -1 ≤ k1
                              · have HJ2 : Hid (KJ k0 k1 k2 k3 2) := Lib.hid (by have := HJ.out; unfold KJ at this ⊢; omega)
                                clear HJ
                                have hk2 : ¬ (k1 < -1) := by omega
                                clear hk
                                go_wp2_with fail
                                go_roundw
                                case rel => exact ⟨trivial, 2, by omega, rfl, HJ2⟩
                                case measure => simp [intOf]
                              · have HR := Lib.hid (K1.out (by omega))
                                have hk2 : k1 < -1 := by omega
                                clear hk
                                go_wp2
                                go_ret
                                exact ⟨by rw [HR.out]; rfl, BB.out⟩
                            · have ix : ∀ w : World, (Instr.index 22 (.agg #[.int .i64 k0, .int .i64 k1, .int .i64 k2, .int .i64 k3]) (.int .i64 2)).run Tryd.prog w = .ok (.int .i64 k2) w := fun _ => by kernel_rfl
                              by_cases hk : -1 ≤ k2
                              · have HJ2 : Hid (KJ k0 k1 k2 k3 3) := Lib.hid (by have := HJ.out; unfold KJ at this ⊢; omega)
                                clear HJ
                                have hk2 : ¬ (k2 < -1) := by omega
                                clear hk
                                go_wp2_with fail
                                go_roundw
                                case rel => exact ⟨trivial, 3, by omega, rfl, HJ2⟩
                                case measure => simp [intOf]
                              · have HR := Lib.hid (K2.out (by omega))
                                have hk2 : k2 < -1 := by omega
                                clear hk
                                go_wp2
                                go_ret
                                exact ⟨by rw [HR.out]; rfl, BB.out⟩
                            · have ix : ∀ w : World, (Instr.index 22 (.agg #[.int .i64 k0, .int .i64 k1, .int .i64 k2, .int .i64 k3]) (.int .i64 3)).run Tryd.prog w = .ok (.int .i64 k3) w := fun _ => by kernel_rfl
                              by_cases hk : -1 ≤ k3
                              · have HJ2 : Hid (KJ k0 k1 k2 k3 4) := Lib.hid (by have := HJ.out; unfold KJ at this ⊢; omega)
                                clear HJ
                                have hk2 : ¬ (k3 < -1) := by omega
                                clear hk
                                go_wp2_with fail
                                go_roundw
                                case rel => exact ⟨trivial, 4, by omega, rfl, HJ2⟩
                                case measure => simp [intOf]
                              · have HR := Lib.hid (K3.out (by omega))
                                have hk2 : k3 < -1 := by omega
                                clear hk
                                go_wp2
                                go_ret
                                exact ⟨by rw [HR.out]; rfl, BB.out⟩
                            · have HR := Lib.hid (KO.out (by have := HJ.out; unfold KJ at this; omega) (by have := HJ.out; unfold KJ at this; omega) (by have := HJ.out; unfold KJ at this; omega) (by have := HJ.out; unfold KJ at this; omega))
                              clear HJ
                              go_wp2
                              go_ret
                              exact ⟨by rw [HR.out]; rfl, BB.out⟩

end Go.Proofs.YtlbmlhcphoiaeaaDoor

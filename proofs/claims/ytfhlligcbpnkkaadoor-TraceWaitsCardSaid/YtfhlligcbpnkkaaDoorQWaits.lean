import Derived.Test.YtfhlligcbpnkkaaDoorMg16
import Derived.Test.YtfhlligcbpnkkaaDoorMg17
import Derived.Test.YtfhlligcbpnkkaaDoorMg28
import Derived.Test.YtfhlligcbpnkkaaDoorMg15
import Derived.Test.YtfhlligcbpnkkaaDoorCards
import Derived.Test.YtfhlligcbpnkkaaDoorTie
import Derived.SevenTiedAt

/-
  Layer 18: the law TraceWaits: who waits is freed, or left, ahead of all else.
-/
namespace Go.Proofs.YtfhlligcbpnkkaaDoor
open Go.RowKit

set_option maxRecDepth 100000 in
set_option maxHeartbeats 8000000 in
theorem lwaits_any (F A : Option Addr) (np cp n c : Nat) (P : List (List I3)) (l : List I3) (w : World) (hF : Fol w) (hP : Prgs w F np P) (hl : Prog w A n c l) :
    Calls Tryd.prog 8 #[.slice F np cp, .slice A n c] w (RetB (.bool true) w) := by
  have HF := Lib.hid hF
  have HPP := Lib.hid hP
  have HL := Lib.hid hl
  have LX := Lib.hid hl.1
  have hnc := hl.2.1
  clear hF hP hl
  by_cases hfw : fewB P = true
  · by_cases hn : n ≤ 100
    · have HFW := Lib.hid hfw
      have HN := Lib.hid hn
      have tn : decide (100 < (n : Int)) = false := decide_eq_false (by omega)
      have tnn : decide (100 < n) = false := decide_eq_false (by omega)
      clear hfw hn
      by_cases h : errL P = 0 ∧ l.length ≤ 65536
      · by_cases hb : badT P l = l.length
        · obtain ⟨ts, hts⟩ : ∃ ts, tasksL P l = ts := ⟨_, rfl⟩
          have HT : Hid (tasksT P l = (ts, 0)) := Lib.hid (by rw [tasksT_ok h hb, hts])
          have HOK := Lib.hid (okL_of h.1)
          have HALL := Lib.hid hb
          have HTS := Lib.hid hts
          obtain ⟨q, hq⟩ : ∃ q, ts.length = q := ⟨_, rfl⟩
          have HQ := Lib.hid hq
          have HQN : Hid (q ≤ n) := Lib.hid (by rw [← hq, ← hts, tasks_count, ← LX.out]; exact cntR_le _ _)
          have HQC : Hid (cntR l 1 = q) := Lib.hid (by rw [← hq, ← hts, tasks_count])
          clear h hb hts hq
          have BB := Lib.hid (Below.refl w.heap.size w)
          go_enter Tryd.func8, Tryd.ntmps8
          go_wp2_with fail
          refine (live_any _ (HF.out.le BB.out)).mono ?_
          try dsimp only
          rintro e U1 ⟨rfl, bU1⟩
          replace BB := Lib.hid (below3 BB.out bU1)
          clear bU1
          go_wp2_with fail
          refine (few_any F np cp P _ (HPP.out.below BB.out)).mono ?_
          rw [HFW.out]
          try dsimp only
          rintro e U2 ⟨rfl, hw⟩
          have hw2 := hw.symm
          subst hw2
          clear hw
          go_wp2_with fail
          refine (tasks_pr F A np cp n c P l _ (HF.out.le BB.out) (HPP.out.below BB.out) (HL.out.below BB.out)).mono ?_
          unfold TasksP
          rw [HT.out]
          try dsimp only
          rintro e U3 ⟨A1, c1, rfl, ow, bU3⟩
          replace BB := Lib.hid (below3 BB.out bU3)
          clear bU3
          have T1 := Lib.hid ow
          clear ow
          have HTK := Lib.hid T1.out.tks
          clear T1
          rw [HQ.out]
          have hqn : q ≤ 100 := by have := HQN.out; have := HN.out; omega
          go_wp2_with fail
          go_loopw [35] (fun t wr => ∃ j : Nat, j ≤ q ∧ t = .int .i64 j ∧ Hid (Below U3.heap.size U3 wr)) (fun t _ => q - (intOf t).toNat)
          case atStart => exact ⟨0, Nat.zero_le _, rfl, Lib.hid (Below.refl _ _)⟩
          case round =>
            rename World => wr
            obtain ⟨j, hj, rfl, HB⟩ := hrel
            by_cases hjq : j < q
            · obtain ⟨hpos, LF⟩ := task_of HOK.out HALL.out (j := j) (by rw [HTS.out, HQ.out]; exact hjq)
              rw [HTS.out] at hpos LF
              obtain ⟨b, o, rfl, hbl, hg⟩ := (HTK.out.below HB.out).at_ (j := j) (by rw [HQ.out]; exact hjq)
              obtain ⟨T, hT⟩ : ∃ T, kth ts j = T := ⟨_, rfl⟩
              rw [hT] at hg hpos LF
              obtain ⟨id, tn, pg, pc, un, k0, k1, k2, k3, st, rn⟩ := T
              dsimp only at hpos LF
              have c0 : wr.cell? ⟨b, o + j * 11, none⟩ = some (.int .i64 id) := hg 0 (by omega)
              have c1 : wr.cell? ⟨b, o + j * 11 + 1, none⟩ = some (.int .i64 tn) := hg 1 (by omega)
              have c2 : wr.cell? ⟨b, o + j * 11 + 2, none⟩ = some (.int .i64 pg) := hg 2 (by omega)
              have c3 : wr.cell? ⟨b, o + j * 11 + 3, none⟩ = some (.int .i64 pc) := hg 3 (by omega)
              have c4 : wr.cell? ⟨b, o + j * 11 + 4, none⟩ = some (.int .i64 un) := hg 4 (by omega)
              have c5 : wr.cell? ⟨b, o + j * 11 + 5, none⟩ = some (.int .i64 k0) := hg 5 (by omega)
              have c6 : wr.cell? ⟨b, o + j * 11 + 6, none⟩ = some (.int .i64 k1) := hg 6 (by omega)
              have c7 : wr.cell? ⟨b, o + j * 11 + 7, none⟩ = some (.int .i64 k2) := hg 7 (by omega)
              have c8 : wr.cell? ⟨b, o + j * 11 + 8, none⟩ = some (.int .i64 k3) := hg 8 (by omega)
              have c9 : wr.cell? ⟨b, o + j * 11 + 9, none⟩ = some (.int .i64 st) := hg 9 (by omega)
              have c10 : wr.cell? ⟨b, o + j * 11 + 10, none⟩ = some (.int .i64 rn) := hg 10 (by omega)
              clear hg hT
              obtain ⟨m, hm⟩ : ∃ m, ofR l id = m := ⟨_, rfl⟩
              rw [hm] at hpos LF
              have HM := Lib.hid hm
              have HLF := Lib.hid LF
              obtain ⟨ml, hml⟩ : ∃ q, m.length = q := ⟨_, rfl⟩
              have HML := Lib.hid hml
              have hmp : 0 < ml := by omega
              have HMN : Hid (ml ≤ n) := Lib.hid (by rw [← hml, ← HM.out, ← LX.out]; exact ofR_len l id)
              clear hpos LF hm hml
              have kt := Bk.new wr 44 #[.int .i64 id, .int .i64 tn, .int .i64 pg, .int .i64 pc, .int .i64 un, .int .i64 k0, .int .i64 k1, .int .i64 k2, .int .i64 k3, .int .i64 st, .int .i64 rn]
              have ba := (Below.refl wr.heap.size wr).alloc (Nat.le_refl _) (.cells #[.int .i64 id, .int .i64 tn, .int .i64 pg, .int .i64 pc, .int .i64 un, .int .i64 k0, .int .i64 k1, .int .i64 k2, .int .i64 k3, .int .i64 st, .int .i64 rn] 44)
              replace HB := Lib.hid (below3 HB.out ba)
              obtain ⟨W9, hW⟩ : ∃ W, wr.alloc (.cells #[.int .i64 id, .int .i64 tn, .int .i64 pg, .int .i64 pc, .int .i64 un, .int .i64 k0, .int .i64 k1, .int .i64 k2, .int .i64 k3, .int .i64 st, .int .i64 rn] 44) = W := ⟨_, rfl⟩
              obtain ⟨gT, hg⟩ : ∃ g, wr.heap.size = g := ⟨_, rfl⟩
              rw [hW] at kt HB
              rw [hg] at kt
              have HW := Lib.hid hW
              have HG := Lib.hid hg
              have KT := Lib.hid kt
              clear hW hg kt ba
              go_upto_region 10 with fail
              rw [HW.out]
              try rw [HG.out]
              clear HW HG
              clear c0 c1 c2 c3 c4 c5 c6 c7 c8 c9 c10 hbl
              obtain ⟨qT_0, qT_1, qT_2, qT_3, qT_4, qT_5, qT_6, qT_7, qT_8, qT_9, qT_10⟩ := KT.out.c11
              have lT := KT.out.lt
              go_wp2_with fail
              have BX := Lib.hid (BB.out.trans (HB.out.mono BB.out.size))
              refine (of_pr A n c l id _ (by have := HN.out; omega) (HL.out.below BX.out)).mono ?_
              rw [HM.out]
              unfold NewEv
              rintro e UF ⟨A3, c3, rfl, ow, b3⟩
              rw [HML.out]
              have T3 := Lib.hid ow.prog
              rw [HML.out] at T3
              replace HB := Lib.hid (below3 HB.out b3)
              replace KT := Lib.hid (KT.out.below b3 KT.out.lt)
              clear ow b3 BX qT_0 qT_1 qT_2 qT_3 qT_4 qT_5 qT_6 qT_7 qT_8 qT_9 qT_10 lT
              have hmn : ml ≤ 100 := by have := HMN.out; have := HN.out; omega
              go_wp2_with fail
              go_loopw [11, 45] (fun u t ws => ∃ k : Nat, k ≤ ml ∧ t = .int .i64 k ∧ u = .int .i64 (cntR (m.take k) 3 : Int) ∧ Hid (Below UF.heap.size UF ws)) (fun _ t _ => ml - (intOf t).toNat)
              case atStart => exact ⟨0, Nat.zero_le _, rfl, rfl, Lib.hid (Below.refl _ _)⟩
              case round =>
                rename World => ws
                obtain ⟨k, hk, rfl, rfl, HS⟩ := hrel
                by_cases hkm : k < ml
                · obtain ⟨b4, o4, rfl, hb4, c0, c1, c2⟩ := (T3.out.below HS.out).at_ hkm
                  have hkl : k < m.length := by rw [HML.out]; exact hkm
                  have hnx := cntR_next hkl 3
                  obtain ⟨⟨kd, xi, xa⟩, hz⟩ : ∃ e, ith m k = e := ⟨_, rfl⟩
                  rw [show jO m k = kd by unfold jO; rw [hz]] at c0
                  rw [show jA m k = xi by unfold jA; rw [hz]] at c1
                  rw [show jB m k = xa by unfold jB; rw [hz]] at c2
                  rw [hz] at hnx
                  dsimp only at hnx
                  have hle : cntR (m.take k) 3 ≤ k := Nat.le_trans (cntR_le _ _) (by rw [List.length_take]; exact Nat.min_le_left _ _)
                  obtain ⟨v, hv⟩ : ∃ v, cntR (m.take k) 3 = v := ⟨_, rfl⟩
                  rw [hv] at hnx hle ⊢
                  have e1 : IntKind.i64.wrap ((v : Int) + 1) = (v : Int) + 1 := by rw [IntKind.wrap_i64]; have := HMN.out; have := HN.out; omega
                  have hkd : (ith m k).1 = kd := by rw [hz]
                  have HHL := HLF.out
                  rw [HML.out] at HHL
                  clear hv hz
                  by_cases hk0 : k = 0
                  · as_aux_lemma =>
                      have hk1 : kd = 1 := by rw [← hkd, hk0]; exact HLF.out.born.1
                      have HNX : Hid (cntR (m.take (k + 1)) 3 = v) := Lib.hid (by rw [hnx, if_neg (by omega)]; rfl)
                      have tp : decide (0 < (k : Int)) = false := decide_eq_false (by omega)
                      have tpn : decide (0 < k) = false := decide_eq_false (by omega)
                      have tk3 : (kd == 3) = false ∧ (kd != 3) = true := by constructor <;> (simp; omega)
                      obtain ⟨tk3, tk3n⟩ := tk3
                      have tk4 : (kd == 4) = false ∧ (kd != 4) = true := by constructor <;> (simp; omega)
                      obtain ⟨tk4, tk4n⟩ := tk4
                      have tk6 : (kd == 6) = false ∧ (kd != 6) = true := by constructor <;> (simp; omega)
                      obtain ⟨tk6, tk6n⟩ := tk6
                      clear hnx hk1 hkd HHL hk0
                      have kt := Bk.new ws 41 #[.int .i64 kd, .int .i64 xi, .int .i64 xa]
                      have ba := (Below.refl ws.heap.size ws).alloc (Nat.le_refl _) (.cells #[.int .i64 kd, .int .i64 xi, .int .i64 xa] 41)
                      replace HS := Lib.hid (below3 HS.out ba)
                      obtain ⟨W8, hW⟩ : ∃ W, ws.alloc (.cells #[.int .i64 kd, .int .i64 xi, .int .i64 xa] 41) = W := ⟨_, rfl⟩
                      obtain ⟨gE, hg⟩ : ∃ g, ws.heap.size = g := ⟨_, rfl⟩
                      rw [hW] at kt HS
                      rw [hg] at kt
                      have HW := Lib.hid hW
                      have HG := Lib.hid hg
                      have KE := Lib.hid kt
                      clear hW hg kt ba
                      go_upto_region 15 with fail
                      rw [HW.out]
                      try rw [HG.out]
                      clear HW HG
                      clear c0 c1 c2
                      obtain ⟨q0, q1, q2⟩ := KE.out.c3t
                      have lE := KE.out.lt
                      go_wp2_with fail
                      go_roundw
                      case rel => exact ⟨k + 1, by omega, by go_num, by rw [HNX.out], HS⟩
                      case measure => simp [intOf]; omega
                  · have hk0 : 0 < k := by omega
                    obtain ⟨b5, o5, e5, -, d0, -, -⟩ := (T3.out.below HS.out).at_ (j := k - 1) (by omega)
                    injection e5 with e5
                    injection e5 with e6 e7 _
                    subst e6 e7
                    obtain ⟨lk, hlk⟩ : ∃ e, (ith m (k - 1)).1 = e := ⟨_, rfl⟩
                    rw [show jO m (k - 1) = lk by unfold jO; rw [hlk]] at d0
                    have hk9 := HML.out
                    have tp : decide (0 < (k : Int)) = true := decide_eq_true (by omega)
                    have tpn : decide (0 < k) = true := decide_eq_true (by omega)
                    have ek : IntKind.i64.wrap ((k : Int) - 1) = ((k - 1 : Nat) : Int) := by rw [IntKind.wrap_i64]; have := HMN.out; have := HN.out; omega
                    have ek4 : wrap64 ((k : Int) - 1) = ((k - 1 : Nat) : Int) := by unfold wrap64; have := HMN.out; have := HN.out; omega
                    have ek2 : k - 1 < ml := by omega
                    have t0k : ((k : Int) == 0) = false := by simp; omega
                    have hah : lk = 3 → kd = 4 ∨ kd = 6 := fun q => by have := HLF.out.afterHeld hk0 hkl (by rw [hlk]; exact q); rw [hkd] at this; exact this
                    have hfh : kd = 4 → lk = 3 := fun q => by have := (HLF.out.freedHeld hkl (by rw [hkd]; exact q)).2; rw [hlk] at this; exact this
                    by_cases hl3 : lk = 3
                    · by_cases h4 : kd = 4
                      · as_aux_lemma =>
                          have HNX : Hid (cntR (m.take (k + 1)) 3 = v) := Lib.hid (by rw [hnx, if_neg (by omega)]; rfl)
                          have tl : (lk == 3) = true ∧ (lk != 3) = false := by constructor <;> (simp; omega)
                          obtain ⟨tl, tln⟩ := tl
                          have tk3 : (kd == 3) = false ∧ (kd != 3) = true := by constructor <;> (simp; omega)
                          obtain ⟨tk3, tk3n⟩ := tk3
                          have tk4 : (kd == 4) = true ∧ (kd != 4) = false := by constructor <;> (simp; omega)
                          obtain ⟨tk4, tk4n⟩ := tk4
                          have tk6 : (kd == 6) = false ∧ (kd != 6) = true := by constructor <;> (simp; omega)
                          obtain ⟨tk6, tk6n⟩ := tk6
                          clear hnx hkd HHL hlk hk9 hah hfh hl3 h4
                          clear hk0
                          have hbaw := (Below.refl ws.heap.size ws).alloc (Nat.le_refl _) (.cells #[.int .i64 kd, .int .i64 xi, .int .i64 xa] 41)
                          have kt := Bk.new ws 41 #[.int .i64 kd, .int .i64 xi, .int .i64 xa]
                          have ba := (Below.refl ws.heap.size ws).alloc (Nat.le_refl _) (.cells #[.int .i64 kd, .int .i64 xi, .int .i64 xa] 41)
                          replace HS := Lib.hid (below3 HS.out ba)
                          obtain ⟨W8, hW⟩ : ∃ W, ws.alloc (.cells #[.int .i64 kd, .int .i64 xi, .int .i64 xa] 41) = W := ⟨_, rfl⟩
                          obtain ⟨gE, hg⟩ : ∃ g, ws.heap.size = g := ⟨_, rfl⟩
                          rw [hW] at kt HS
                          rw [hg] at kt
                          have HW := Lib.hid hW
                          have HG := Lib.hid hg
                          have KE := Lib.hid kt
                          clear hW hg kt ba
                          have d9 := (hbaw.cell (p := ⟨b4, o4 + (k - 1) * 3, none⟩) hb4).trans d0
                          have lb4 := Nat.lt_of_lt_of_le hb4 hbaw.size
                          rw [HW.out] at d9 lb4
                          clear hbaw d0
                          go_upto_region 15 with fail
                          rw [HW.out]
                          try rw [HG.out]
                          clear HW HG
                          clear c0 c1 c2
                          obtain ⟨q0, q1, q2⟩ := KE.out.c3t
                          have lE := KE.out.lt
                          go_wp2_with fail
                          go_roundw
                          case rel => exact ⟨k + 1, by omega, by go_num, by rw [HNX.out], HS⟩
                          case measure => simp [intOf]; omega
                      · as_aux_lemma =>
                          have hk6 : kd = 6 := by have := hah hl3; omega
                          have HNX : Hid (cntR (m.take (k + 1)) 3 = v) := Lib.hid (by rw [hnx, if_neg (by omega)]; rfl)
                          have tl : (lk == 3) = true ∧ (lk != 3) = false := by constructor <;> (simp; omega)
                          obtain ⟨tl, tln⟩ := tl
                          have tk3 : (kd == 3) = false ∧ (kd != 3) = true := by constructor <;> (simp; omega)
                          obtain ⟨tk3, tk3n⟩ := tk3
                          have tk4 : (kd == 4) = false ∧ (kd != 4) = true := by constructor <;> (simp; omega)
                          obtain ⟨tk4, tk4n⟩ := tk4
                          have tk6 : (kd == 6) = true ∧ (kd != 6) = false := by constructor <;> (simp; omega)
                          obtain ⟨tk6, tk6n⟩ := tk6
                          clear hnx hkd HHL hlk hk9 hah hfh hl3 h4 hk6
                          clear hk0
                          have hbaw := (Below.refl ws.heap.size ws).alloc (Nat.le_refl _) (.cells #[.int .i64 kd, .int .i64 xi, .int .i64 xa] 41)
                          have kt := Bk.new ws 41 #[.int .i64 kd, .int .i64 xi, .int .i64 xa]
                          have ba := (Below.refl ws.heap.size ws).alloc (Nat.le_refl _) (.cells #[.int .i64 kd, .int .i64 xi, .int .i64 xa] 41)
                          replace HS := Lib.hid (below3 HS.out ba)
                          obtain ⟨W8, hW⟩ : ∃ W, ws.alloc (.cells #[.int .i64 kd, .int .i64 xi, .int .i64 xa] 41) = W := ⟨_, rfl⟩
                          obtain ⟨gE, hg⟩ : ∃ g, ws.heap.size = g := ⟨_, rfl⟩
                          rw [hW] at kt HS
                          rw [hg] at kt
                          have HW := Lib.hid hW
                          have HG := Lib.hid hg
                          have KE := Lib.hid kt
                          clear hW hg kt ba
                          have d9 := (hbaw.cell (p := ⟨b4, o4 + (k - 1) * 3, none⟩) hb4).trans d0
                          have lb4 := Nat.lt_of_lt_of_le hb4 hbaw.size
                          rw [HW.out] at d9 lb4
                          clear hbaw d0
                          go_upto_region 15 with fail
                          rw [HW.out]
                          try rw [HG.out]
                          clear HW HG
                          clear c0 c1 c2
                          obtain ⟨q0, q1, q2⟩ := KE.out.c3t
                          have lE := KE.out.lt
                          go_wp2_with fail
                          go_roundw
                          case rel => exact ⟨k + 1, by omega, by go_num, by rw [HNX.out], HS⟩
                          case measure => simp [intOf]; omega
                    · by_cases h3 : kd = 3
                      · as_aux_lemma =>
                          have HNX : Hid (cntR (m.take (k + 1)) 3 = v + 1) := Lib.hid (by rw [hnx, if_pos h3])
                          have tl : (lk == 3) = false ∧ (lk != 3) = true := by constructor <;> (simp; omega)
                          obtain ⟨tl, tln⟩ := tl
                          have tk3 : (kd == 3) = true ∧ (kd != 3) = false := by constructor <;> (simp; omega)
                          obtain ⟨tk3, tk3n⟩ := tk3
                          have tk4 : (kd == 4) = false ∧ (kd != 4) = true := by constructor <;> (simp; omega)
                          obtain ⟨tk4, tk4n⟩ := tk4
                          have tk6 : (kd == 6) = false ∧ (kd != 6) = true := by constructor <;> (simp; omega)
                          obtain ⟨tk6, tk6n⟩ := tk6
                          clear hnx hkd HHL hlk hk9 hah hfh hl3 h3
                          clear hk0
                          have hbaw := (Below.refl ws.heap.size ws).alloc (Nat.le_refl _) (.cells #[.int .i64 kd, .int .i64 xi, .int .i64 xa] 41)
                          have kt := Bk.new ws 41 #[.int .i64 kd, .int .i64 xi, .int .i64 xa]
                          have ba := (Below.refl ws.heap.size ws).alloc (Nat.le_refl _) (.cells #[.int .i64 kd, .int .i64 xi, .int .i64 xa] 41)
                          replace HS := Lib.hid (below3 HS.out ba)
                          obtain ⟨W8, hW⟩ : ∃ W, ws.alloc (.cells #[.int .i64 kd, .int .i64 xi, .int .i64 xa] 41) = W := ⟨_, rfl⟩
                          obtain ⟨gE, hg⟩ : ∃ g, ws.heap.size = g := ⟨_, rfl⟩
                          rw [hW] at kt HS
                          rw [hg] at kt
                          have HW := Lib.hid hW
                          have HG := Lib.hid hg
                          have KE := Lib.hid kt
                          clear hW hg kt ba
                          have d9 := (hbaw.cell (p := ⟨b4, o4 + (k - 1) * 3, none⟩) hb4).trans d0
                          have lb4 := Nat.lt_of_lt_of_le hb4 hbaw.size
                          rw [HW.out] at d9 lb4
                          clear hbaw d0
                          go_upto_region 15 with fail
                          rw [HW.out]
                          try rw [HG.out]
                          clear HW HG
                          clear c0 c1 c2
                          obtain ⟨q0, q1, q2⟩ := KE.out.c3t
                          have lE := KE.out.lt
                          go_wp2_with fail
                          go_roundw
                          case rel => exact ⟨k + 1, by omega, by go_num, by rw [HNX.out]; go_num, HS⟩
                          case measure => simp [intOf]; omega
                      · as_aux_lemma =>
                          have h4 : kd ≠ 4 := fun q => hl3 (hfh q)
                          have HNX : Hid (cntR (m.take (k + 1)) 3 = v) := Lib.hid (by rw [hnx, if_neg h3]; rfl)
                          have tl : (lk == 3) = false ∧ (lk != 3) = true := by constructor <;> (simp; omega)
                          obtain ⟨tl, tln⟩ := tl
                          have tk3 : (kd == 3) = false ∧ (kd != 3) = true := by constructor <;> (simp; omega)
                          obtain ⟨tk3, tk3n⟩ := tk3
                          have tk4 : (kd == 4) = false ∧ (kd != 4) = true := by constructor <;> (simp; omega)
                          obtain ⟨tk4, tk4n⟩ := tk4
                          clear hnx hkd HHL hlk hk9 hah hfh hl3 h3 h4
                          clear hk0
                          have hbaw := (Below.refl ws.heap.size ws).alloc (Nat.le_refl _) (.cells #[.int .i64 kd, .int .i64 xi, .int .i64 xa] 41)
                          have kt := Bk.new ws 41 #[.int .i64 kd, .int .i64 xi, .int .i64 xa]
                          have ba := (Below.refl ws.heap.size ws).alloc (Nat.le_refl _) (.cells #[.int .i64 kd, .int .i64 xi, .int .i64 xa] 41)
                          replace HS := Lib.hid (below3 HS.out ba)
                          obtain ⟨W8, hW⟩ : ∃ W, ws.alloc (.cells #[.int .i64 kd, .int .i64 xi, .int .i64 xa] 41) = W := ⟨_, rfl⟩
                          obtain ⟨gE, hg⟩ : ∃ g, ws.heap.size = g := ⟨_, rfl⟩
                          rw [hW] at kt HS
                          rw [hg] at kt
                          have HW := Lib.hid hW
                          have HG := Lib.hid hg
                          have KE := Lib.hid kt
                          clear hW hg kt ba
                          have d9 := (hbaw.cell (p := ⟨b4, o4 + (k - 1) * 3, none⟩) hb4).trans d0
                          have lb4 := Nat.lt_of_lt_of_le hb4 hbaw.size
                          rw [HW.out] at d9 lb4
                          clear hbaw d0
                          go_upto_region 15 with fail
                          rw [HW.out]
                          try rw [HG.out]
                          clear HW HG
                          clear c0 c1 c2
                          obtain ⟨q0, q1, q2⟩ := KE.out.c3t
                          have lE := KE.out.lt
                          go_wp2_with fail
                          go_roundw
                          case rel => exact ⟨k + 1, by omega, by go_num, by rw [HNX.out], HS⟩
                          case measure => simp [intOf]; omega
                · as_aux_lemma =>
                    have hkk : k = ml := by omega
                    have hv0 : cntR (m.take k) 3 = cntR m 3 := by rw [List.take_of_length_le (by rw [HML.out]; omega)]
                    obtain ⟨v, hv⟩ : ∃ v, cntR m 3 = v := ⟨_, rfl⟩
                    obtain ⟨v4, hv4⟩ : ∃ v, cntR m 4 = v := ⟨_, rfl⟩
                    have hct := HLF.out.heldCount
                    rw [hv, hv4] at hct
                    rw [hv0, hv]
                    have HV4 := Lib.hid hv4
                    have hvl : v4 ≤ ml := by rw [← hv4, ← HML.out]; exact cntR_le _ _
                    have ta : decide ((v : Int) < (v4 : Int)) = false := decide_eq_false (by omega)
                    have tan : decide (v < v4) = false := decide_eq_false (by omega)
                    have tb : decide ((v4 : Int) + 1 < (v : Int)) = false := decide_eq_false (by omega)
                    have ew : wrap64 ((v4 : Int) + 1) = (v4 : Int) + 1 := by unfold wrap64; have := HMN.out; have := HN.out; omega
                    subst hkk
                    clear hv hv4 hv0 hct hvl
                    have T4 := Lib.hid (T3.out.below HS.out)
                    go_wp2_with fail
                    refine (count_pr A3 _ c3 m 4 _ T4.out).mono ?_
                    rw [HV4.out]
                    rintro e U7 ⟨rfl, b7⟩
                    replace HS := Lib.hid (below3 HS.out b7)
                    clear b7 T4
                    have T4 := Lib.hid (T3.out.below HS.out)
                    go_wp2_with fail
                    refine (count_pr A3 _ c3 m 4 _ T4.out).mono ?_
                    rw [HV4.out]
                    rintro e U8 ⟨rfl, b8⟩
                    replace HS := Lib.hid (below3 HS.out b8)
                    clear b8 T4
                    have HBF := Lib.hid (below3 HB.out HS.out)
                    go_wp2_with fail
                    go_roundw
                    case rel => exact ⟨j + 1, by omega, by go_num, HBF⟩
                    case measure => simp [intOf]; omega
            · obtain rfl : j = q := by omega
              have BF := Lib.hid (BB.out.trans (HB.out.mono BB.out.size))
              go_wp2_with fail
              go_ret
              exact ⟨rfl, BF.out⟩
        · have HT : Hid (tasksT P l = ([], 2)) := Lib.hid (tasksT_bad h hb)
          clear h hb
          have BB := Lib.hid (Below.refl w.heap.size w)
          go_enter Tryd.func8, Tryd.ntmps8
          go_wp2_with fail
          refine (live_any _ (HF.out.le BB.out)).mono ?_
          try dsimp only
          rintro e U1 ⟨rfl, bU1⟩
          replace BB := Lib.hid (below3 BB.out bU1)
          clear bU1
          go_wp2_with fail
          refine (few_any F np cp P _ (HPP.out.below BB.out)).mono ?_
          rw [HFW.out]
          try dsimp only
          rintro e U2 ⟨rfl, hw⟩
          have hw2 := hw.symm
          subst hw2
          clear hw
          go_wp2_with fail
          refine (tasks_pr F A np cp n c P l _ (HF.out.le BB.out) (HPP.out.below BB.out) (HL.out.below BB.out)).mono ?_
          unfold TasksP
          rw [HT.out]
          try dsimp only
          rintro e U3 ⟨A1, c1, rfl, ow, bU3⟩
          replace BB := Lib.hid (below3 BB.out bU3)
          clear bU3
          have T1 := Lib.hid ow
          clear ow
          go_wp2_with fail
          go_ret
          exact ⟨rfl, BB.out⟩
      · have HT : Hid (tasksT P l = ([], 1)) := Lib.hid (tasksT_no h)
        clear h
        have BB := Lib.hid (Below.refl w.heap.size w)
        go_enter Tryd.func8, Tryd.ntmps8
        go_wp2_with fail
        refine (live_any _ (HF.out.le BB.out)).mono ?_
        try dsimp only
        rintro e U1 ⟨rfl, bU1⟩
        replace BB := Lib.hid (below3 BB.out bU1)
        clear bU1
        go_wp2_with fail
        refine (few_any F np cp P _ (HPP.out.below BB.out)).mono ?_
        rw [HFW.out]
        try dsimp only
        rintro e U2 ⟨rfl, hw⟩
        have hw2 := hw.symm
        subst hw2
        clear hw
        go_wp2_with fail
        refine (tasks_pr F A np cp n c P l _ (HF.out.le BB.out) (HPP.out.below BB.out) (HL.out.below BB.out)).mono ?_
        unfold TasksP
        rw [HT.out]
        try dsimp only
        rintro e U3 ⟨A1, c1, rfl, ow, bU3⟩
        replace BB := Lib.hid (below3 BB.out bU3)
        clear bU3
        have T1 := Lib.hid ow
        clear ow
        go_wp2_with fail
        go_ret
        exact ⟨rfl, BB.out⟩
    · have HFW := Lib.hid hfw
      have tn : decide (100 < (n : Int)) = true := decide_eq_true (by omega)
      have tnn : decide (100 < n) = true := decide_eq_true (by omega)
      clear hfw hn
      have BB := Lib.hid (Below.refl w.heap.size w)
      go_enter Tryd.func8, Tryd.ntmps8
      go_wp2_with fail
      refine (live_any _ (HF.out.le BB.out)).mono ?_
      try dsimp only
      rintro e U1 ⟨rfl, bU1⟩
      replace BB := Lib.hid (below3 BB.out bU1)
      clear bU1
      go_wp2_with fail
      refine (few_any F np cp P _ (HPP.out.below BB.out)).mono ?_
      rw [HFW.out]
      try dsimp only
      rintro e U2 ⟨rfl, hw⟩
      have hw2 := hw.symm
      subst hw2
      clear hw
      go_wp2_with fail
      go_ret
      exact ⟨rfl, BB.out⟩
  · have HFW : Hid (fewB P = false) := Lib.hid (by simpa using hfw)
    clear hfw
    have BB := Lib.hid (Below.refl w.heap.size w)
    go_enter Tryd.func8, Tryd.ntmps8
    go_wp2_with fail
    refine (live_any _ (HF.out.le BB.out)).mono ?_
    try dsimp only
    rintro e U1 ⟨rfl, bU1⟩
    replace BB := Lib.hid (below3 BB.out bU1)
    clear bU1
    go_wp2_with fail
    refine (few_any F np cp P _ (HPP.out.below BB.out)).mono ?_
    rw [HFW.out]
    try dsimp only
    rintro e U2 ⟨rfl, hw⟩
    have hw2 := hw.symm
    subst hw2
    clear hw
    go_wp2_with fail
    go_ret
    exact ⟨rfl, BB.out⟩

end Go.Proofs.YtfhlligcbpnkkaaDoor

/-
  The tied card of the law TraceWaits of layer 18 holds, for every input, where the table of states reads as the program's own text lays it: who waits is freed, or left, ahead of all else. No condition beyond the row's own.
-/
namespace Go.Proofs.YtfhlligcbpnkkaaDoor
open Go.ChangeShapes Go.WideShapes Go.ChangeAt Go.RowKit

set_option maxRecDepth 100000 in
theorem lwaits_gives {H : Type} (enc : TypeId × Value → H) : GivesL Fol enc 8 Tryd.f8.params.toList Rows.traceWaitsSpec := by
  intro W base args ds p hval hA hsz hlt hL
  rw [Tryd.params8] at hA hval hsz
  obtain ⟨v0, vs0, d0, ds0, p0, q0, hargs, rfl, rfl, h0, r0⟩ := trodAll_cons hA
  obtain ⟨v1, vs1, d1, ds1, p1, q1, rfl, rfl, rfl, h1, r1⟩ := trodAll_cons r0
  obtain ⟨rfl, rfl, rfl⟩ := trodAll_nil r1
  obtain rfl : args = #[v0, v1] := by cases args; simp_all
  refine ⟨rfl, ?_⟩
  obtain ⟨A0, n0, c0, l0, rfl, hx0⟩ := open_prgs (hval 0 22 v0 rfl rfl) h0 (fun x hx => hlt x (by simp [hx]))
  obtain ⟨A1, n1, c1, l1, rfl, hx1⟩ := open_evs (hval 1 23 v1 rfl rfl) h1 (fun x hx => hlt x (by simp [hx]))
  exact lwaits_any A0 A1 n0 c0 n1 c1 l0 l1 W hL hx0 hx1

set_option maxRecDepth 100000 in
theorem lwaits_lifted (os : Os) (started : os.Started) (H : Type) (enc : TypeId × Value → H) :
    ReturnsInHanded {} Tryd.checked os 8 .any (fun w args => (Rows.traceWaitsSpec.pre enc Tryd.prog Tryd.f8 Rows.traceWaitsRow.domain false w args ∧ laidMetH Tryd.prog [("ravel/life.follows", Rows.laid_ravel_life_follows)] w) ∧ sizedMet enc Tryd.prog Tryd.f8 (OpenSpec.ofChange Rows.traceWaitsSpec) false w args) (Rows.traceWaitsSpec.post enc Tryd.prog Tryd.f8 false true false false) :=
  lawL_lifted os started 8 Tryd.f8 Rows.traceWaitsSpec [("ravel/life.follows", Rows.laid_ravel_life_follows)] Fol fol_of_laid rfl rfl (by kernel_rfl) Tryd.func8 (by kernel_rfl) (by kernel_rfl)
    (ChangeSpec.witness_shaped (enc := enc) (C := Tryd.checked) (os := os) (X := fun w _ => laidMetH Tryd.prog [("ravel/life.follows", Rows.laid_ravel_life_follows)] w) false (World.laidAll Tryd.prog os [("ravel/life.follows", Rows.laid_ravel_life_follows)]) #[.slice none 0 0, .slice none 0 0] 8 (World.laidAll_os _ _ _)
      (World.shaped_of_ZipB (by kernel_rfl) (by kernel_rfl)) (by kernel_rfl) (by kernel_rfl) (by kernel_rfl) (by rw [MakeChecks.laidMetH_plain _ _ _ (by kernel_rfl)]; exact laidMet_laidAll _ (by kernel_rfl) (by kernel_rfl)))
    (lwaits_gives enc)

set_option maxRecDepth 100000 in
theorem TraceWaits_row : Rows.TraceWaitsSaid :=
  OpenClaim.holds_of_wide 8 Tryd.f8 rfl rfl rfl rfl rfl rfl rfl ⟨rfl, rfl, rfl, rfl, rfl⟩ rfl rfl rfl rfl rfl (by kernel_rfl) Tryd.func8 (by kernel_rfl)
    (of_decide_eq_true (by kernel_rfl)) (by unfold Func.isWrapper; first | (rw [if_pos (by decide +kernel)]; kernel_rfl) | (rw [if_neg (by decide +kernel)]; exact ⟨rfl, rfl⟩))
    (fun os started H enc _ => lwaits_lifted os started H enc)

set_option maxRecDepth 100000 in
theorem TraceWaits_holds : Rows.TraceWaitsCardSaid :=
  Claim7.holds_tied_plain_at .later [] [.data] true Rows.traceWaitsCard.stood.harness false
    TraceWaits_row (fun _ h => by cases h) (by kernel_rfl) (fun _ h => by cases h) traceWaits_row_tie rfl ⟨rfl, rfl⟩ (by kernel_rfl) (by kernel_rfl)
    (fun f fn hf hfn => by
      obtain rfl : f = 8 := Option.some.inj ((show Tryd.prog.funcNamed "ravel/ravellaw18.TraceWaits" = some 8 by kernel_rfl).symm.trans hf) |>.symm
      obtain rfl : fn = Tryd.f8 := (Option.some.inj (Tryd.func8.symm.trans hfn)).symm
      exact ⟨by kernel_rfl, fun j t ht => by
        rw [Tryd.params8] at ht
        have hm : t ∈ [22, 23] := by simpa using Array.mem_of_getElem? ht
        have hall : ([22, 23].all fun u => !Tryd.prog.wantsStandIn u) = true := by kernel_rfl
        exact (show Tryd.prog.wantsStandIn t = false by simpa using List.all_eq_true.1 hall t hm)⟩)
    (by kernel_rfl)

#print axioms TraceWaits_holds
end Go.Proofs.YtfhlligcbpnkkaaDoor

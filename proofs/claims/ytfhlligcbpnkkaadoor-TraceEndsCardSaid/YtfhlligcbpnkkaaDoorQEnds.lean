import Derived.Test.YtfhlligcbpnkkaaDoorMg16
import Derived.Test.YtfhlligcbpnkkaaDoorMg17
import Derived.Test.YtfhlligcbpnkkaaDoorMg28
import Derived.Test.YtfhlligcbpnkkaaDoorMg15
import Derived.Test.YtfhlligcbpnkkaaDoorMg10
import Derived.Test.YtfhlligcbpnkkaaDoorCards
import Derived.Test.YtfhlligcbpnkkaaDoorTie
import Derived.SevenTiedAt

/-
  Layer 18: the law TraceEnds: a task is born once, nothing comes behind its end, and it does no more units than its program has.
-/
namespace Go.Proofs.YtfhlligcbpnkkaaDoor
open Go.RowKit

set_option maxRecDepth 100000 in
set_option maxHeartbeats 8000000 in
theorem lends_any (F A : Option Addr) (np cp n c : Nat) (P : List (List I3)) (l : List I3) (w : World) (hF : Fol w) (hP : Prgs w F np P) (hl : Prog w A n c l) :
    Calls Tryd.prog 6 #[.slice F np cp, .slice A n c] w (RetB (.bool true) w) := by
  have HF := Lib.hid hF
  have HPP := Lib.hid hP
  have HL := Lib.hid hl
  have LX := Lib.hid hl.1
  have hnc := hl.2.1
  clear hF hP hl
  by_cases hfw : fewB P = true
  · by_cases hn : n ≤ 100
    · have HFW := Lib.hid hfw
      have HN := Lib.hid hn
      have tn : decide (100 < (n : Int)) = false := decide_eq_false (by omega)
      have tnn : decide (100 < n) = false := decide_eq_false (by omega)
      clear hfw hn
      by_cases h : errL P = 0 ∧ l.length ≤ 65536
      · by_cases hb : badT P l = l.length
        · obtain ⟨ts, hts⟩ : ∃ ts, tasksL P l = ts := ⟨_, rfl⟩
          have HT : Hid (tasksT P l = (ts, 0)) := Lib.hid (by rw [tasksT_ok h hb, hts])
          have HOK := Lib.hid (okL_of h.1)
          have HALL := Lib.hid hb
          have HTS := Lib.hid hts
          obtain ⟨q, hq⟩ : ∃ q, ts.length = q := ⟨_, rfl⟩
          have HQ := Lib.hid hq
          have HQN : Hid (q ≤ n) := Lib.hid (by rw [← hq, ← hts, tasks_count, ← LX.out]; exact cntR_le _ _)
          have HQC : Hid (cntR l 1 = q) := Lib.hid (by rw [← hq, ← hts, tasks_count])
          clear h hb hts hq
          have BB := Lib.hid (Below.refl w.heap.size w)
          go_enter Tryd.func6, Tryd.ntmps6
          go_wp2_with fail
          refine (live_any _ (HF.out.le BB.out)).mono ?_
          try dsimp only
          rintro e U1 ⟨rfl, bU1⟩
          replace BB := Lib.hid (below3 BB.out bU1)
          clear bU1
          go_wp2_with fail
          refine (few_any F np cp P _ (HPP.out.below BB.out)).mono ?_
          rw [HFW.out]
          try dsimp only
          rintro e U2 ⟨rfl, hw⟩
          have hw2 := hw.symm
          subst hw2
          clear hw
          go_wp2_with fail
          refine (tasks_pr F A np cp n c P l _ (HF.out.le BB.out) (HPP.out.below BB.out) (HL.out.below BB.out)).mono ?_
          unfold TasksP
          rw [HT.out]
          try dsimp only
          rintro e U3 ⟨A1, c1, rfl, ow, bU3⟩
          replace BB := Lib.hid (below3 BB.out bU3)
          clear bU3
          have T1 := Lib.hid ow
          clear ow
          have HTK := Lib.hid T1.out.tks
          clear T1
          rw [HQ.out]
          have hqn : q ≤ 100 := by have := HQN.out; have := HN.out; omega
          have PLN := Lib.hid HPP.out.1
          go_wp2_with fail
          refine (count_pr A n c l 1 _ (HL.out.below BB.out)).mono ?_
          rw [HQC.out]
          rintro e U6 ⟨rfl, b6⟩
          replace HTK := Lib.hid (HTK.out.below b6)
          replace BB := Lib.hid (below3 BB.out b6)
          clear b6
          go_wp2_with fail
          go_loopw [48] (fun t wr => ∃ j : Nat, j ≤ q ∧ t = .int .i64 j ∧ Hid (Below U6.heap.size U6 wr)) (fun t _ => q - (intOf t).toNat)
          case atStart => exact ⟨0, Nat.zero_le _, rfl, Lib.hid (Below.refl _ _)⟩
          case round =>
            rename World => wr
            obtain ⟨j, hj, rfl, HB⟩ := hrel
            by_cases hjq : j < q
            · obtain ⟨hpos, LF⟩ := task_of HOK.out HALL.out (j := j) (by rw [HTS.out, HQ.out]; exact hjq)
              rw [HTS.out] at hpos LF
              obtain ⟨b, o, rfl, hbl, hg⟩ := (HTK.out.below HB.out).at_ (j := j) (by rw [HQ.out]; exact hjq)
              obtain ⟨T, hT⟩ : ∃ T, kth ts j = T := ⟨_, rfl⟩
              rw [hT] at hg hpos LF
              obtain ⟨id, tn, pg, pc, un, k0, k1, k2, k3, st, rn⟩ := T
              dsimp only at hpos LF
              have c0 : wr.cell? ⟨b, o + j * 11, none⟩ = some (.int .i64 id) := hg 0 (by omega)
              have c1 : wr.cell? ⟨b, o + j * 11 + 1, none⟩ = some (.int .i64 tn) := hg 1 (by omega)
              have c2 : wr.cell? ⟨b, o + j * 11 + 2, none⟩ = some (.int .i64 pg) := hg 2 (by omega)
              have c3 : wr.cell? ⟨b, o + j * 11 + 3, none⟩ = some (.int .i64 pc) := hg 3 (by omega)
              have c4 : wr.cell? ⟨b, o + j * 11 + 4, none⟩ = some (.int .i64 un) := hg 4 (by omega)
              have c5 : wr.cell? ⟨b, o + j * 11 + 5, none⟩ = some (.int .i64 k0) := hg 5 (by omega)
              have c6 : wr.cell? ⟨b, o + j * 11 + 6, none⟩ = some (.int .i64 k1) := hg 6 (by omega)
              have c7 : wr.cell? ⟨b, o + j * 11 + 7, none⟩ = some (.int .i64 k2) := hg 7 (by omega)
              have c8 : wr.cell? ⟨b, o + j * 11 + 8, none⟩ = some (.int .i64 k3) := hg 8 (by omega)
              have c9 : wr.cell? ⟨b, o + j * 11 + 9, none⟩ = some (.int .i64 st) := hg 9 (by omega)
              have c10 : wr.cell? ⟨b, o + j * 11 + 10, none⟩ = some (.int .i64 rn) := hg 10 (by omega)
              clear hg hT
              obtain ⟨m, hm⟩ : ∃ m, ofR l id = m := ⟨_, rfl⟩
              rw [hm] at hpos LF
              have HM := Lib.hid hm
              have HLF := Lib.hid LF
              obtain ⟨ml, hml⟩ : ∃ q, m.length = q := ⟨_, rfl⟩
              have HML := Lib.hid hml
              have hmp : 0 < ml := by omega
              have HMN : Hid (ml ≤ n) := Lib.hid (by rw [← hml, ← HM.out, ← LX.out]; exact ofR_len l id)
              clear hpos LF hm hml
              have kt := Bk.new wr 44 #[.int .i64 id, .int .i64 tn, .int .i64 pg, .int .i64 pc, .int .i64 un, .int .i64 k0, .int .i64 k1, .int .i64 k2, .int .i64 k3, .int .i64 st, .int .i64 rn]
              have ba := (Below.refl wr.heap.size wr).alloc (Nat.le_refl _) (.cells #[.int .i64 id, .int .i64 tn, .int .i64 pg, .int .i64 pc, .int .i64 un, .int .i64 k0, .int .i64 k1, .int .i64 k2, .int .i64 k3, .int .i64 st, .int .i64 rn] 44)
              replace HB := Lib.hid (below3 HB.out ba)
              obtain ⟨W9, hW⟩ : ∃ W, wr.alloc (.cells #[.int .i64 id, .int .i64 tn, .int .i64 pg, .int .i64 pc, .int .i64 un, .int .i64 k0, .int .i64 k1, .int .i64 k2, .int .i64 k3, .int .i64 st, .int .i64 rn] 44) = W := ⟨_, rfl⟩
              obtain ⟨gT, hg⟩ : ∃ g, wr.heap.size = g := ⟨_, rfl⟩
              rw [hW] at kt HB
              rw [hg] at kt
              have HW := Lib.hid hW
              have HG := Lib.hid hg
              have KT := Lib.hid kt
              clear hW hg kt ba
              go_upto_region 12 with fail
              rw [HW.out]
              try rw [HG.out]
              clear HW HG
              clear c0 c1 c2 c3 c4 c5 c6 c7 c8 c9 c10 hbl
              obtain ⟨qT_0, qT_1, qT_2, qT_3, qT_4, qT_5, qT_6, qT_7, qT_8, qT_9, qT_10⟩ := KT.out.c11
              have lT := KT.out.lt
              go_wp2_with fail
              have BX := Lib.hid (BB.out.trans (HB.out.mono BB.out.size))
              refine (of_pr A n c l id _ (by have := HN.out; omega) (HL.out.below BX.out)).mono ?_
              rw [HM.out]
              unfold NewEv
              rintro e UF ⟨A3, c3, rfl, ow, b3⟩
              rw [HML.out]
              have T3 := Lib.hid ow.prog
              rw [HML.out] at T3
              replace HB := Lib.hid (below3 HB.out b3)
              replace KT := Lib.hid (KT.out.below b3 KT.out.lt)
              clear ow b3 BX qT_0 qT_1 qT_2 qT_3 qT_4 qT_5 qT_6 qT_7 qT_8 qT_9 qT_10 lT
              have hmn : ml ≤ 100 := by have := HMN.out; have := HN.out; omega
              have hwho := HLF.out.who
              dsimp only at hwho
              have hp0 : 0 ≤ pg := hwho.2.2.1
              have hp1 : pg < (np : Int) := by have := PLN.out; have := hwho.2.2.2; omega
              clear hwho
              obtain ⟨v2, hv2⟩ : ∃ v, cntR m 2 = v := ⟨_, rfl⟩
              have HV2 := Lib.hid hv2
              have hrn : rn = (v2 : Int) := by have := HLF.out.ranAll; rw [hv2] at this; exact this
              have hmost := HLF.out.didMost
              rw [hv2] at hmost
              obtain ⟨un2, hun2⟩ : ∃ u, units (pth P pg.toNat) = u := ⟨_, rfl⟩
              rw [show prgT P (⟨id, tn, pg, pc, un, k0, k1, k2, k3, st, rn⟩ : Tk) = pth P pg.toNat from rfl, hun2] at hmost
              have hokp := okL_prg HOK.out (t := ⟨id, tn, pg, pc, un, k0, k1, k2, k3, st, rn⟩) ⟨hp0, by have := PLN.out; show pg < (P.length : Int); omega⟩
              have hur := units_room hokp (Nat.le_refl _)
              rw [show unitsK (prgT P (⟨id, tn, pg, pc, un, k0, k1, k2, k3, st, rn⟩ : Tk)) (runLen (prgT P (⟨id, tn, pg, pc, un, k0, k1, k2, k3, st, rn⟩ : Tk))) = units (pth P pg.toNat) from rfl, hun2] at hur
              have HUA : Hid (unitsA (pth P pg.toNat) = (un2, 0)) := Lib.hid (by rw [show unitsA (pth P pg.toNat) = (units (pth P pg.toNat), 0) from unitsA_ok hokp, hun2])
              clear hokp hun2 hv2
              have tz : ((ml : Int) == 0) = false := by simp; omega
              have tg0 : decide (pg < 0) = false := decide_eq_false (by omega)
              have tg1 : decide ((np : Int) ≤ pg) = false := decide_eq_false (by omega)
              have tu : decide (un2 + 1 < (v2 : Int)) = false := decide_eq_false (by omega)
              have ewu : wrap64 (un2 + 1) = un2 + 1 := by unfold wrap64; omega
              have trn : (rn != (v2 : Int)) = false := by simpa using hrn
              clear hmost hrn
              obtain ⟨b4, o4, rfl, hb4, d0, -, -⟩ := T3.out.at_ (j := 0) hmp
              simp only [Nat.zero_mul, Nat.add_zero] at d0
              rw [show jO m 0 = 1 from HLF.out.born.1] at d0
              have BX := Lib.hid (BB.out.trans (HB.out.mono BB.out.size))
              obtain ⟨b6, o6, B6, m6, c6, rfl, hb6, g6, hpr⟩ := (HPP.out.below BX.out).at_ (j := pg.toNat) (by omega)
              have HPR := Lib.hid hpr
              clear hpr
              obtain ⟨qT_0, qT_1, qT_2, qT_3, qT_4, qT_5, qT_6, qT_7, qT_8, qT_9, qT_10⟩ := KT.out.c11
              have lT := KT.out.lt
              go_wp2_with fail
              refine (units_any B6 m6 c6 (pth P pg.toNat) _ HPR.out).mono ?_
              unfold Ret2
              rw [HUA.out]
              rintro e U7 ⟨rfl, b7⟩
              clear d0 g6 hb4 hb6 tz tg0 tg1 qT_0 qT_1 qT_2 qT_3 qT_4 qT_5 qT_6 qT_7 qT_8 qT_9 qT_10 lT
              replace T3 := Lib.hid (T3.out.below b7)
              replace HB := Lib.hid (below3 HB.out b7)
              replace KT := Lib.hid (KT.out.below b7 KT.out.lt)
              clear b7 HPR BX
              go_wp2_with fail
              refine (count_pr _ ml c3 m 2 _ T3.out).mono ?_
              rw [HV2.out]
              rintro e U8 ⟨rfl, b8⟩
              replace T3 := Lib.hid (T3.out.below b8)
              replace HB := Lib.hid (below3 HB.out b8)
              replace KT := Lib.hid (KT.out.below b8 KT.out.lt)
              clear b8
              obtain ⟨qT_0, qT_1, qT_2, qT_3, qT_4, qT_5, qT_6, qT_7, qT_8, qT_9, qT_10⟩ := KT.out.c11
              have lT := KT.out.lt
              go_wp2_with fail
              clear qT_0 qT_1 qT_2 qT_3 qT_4 qT_5 qT_6 qT_7 qT_8 qT_9 qT_10 lT tu ewu trn
              go_loopw [105] (fun t ws => ∃ k : Nat, k ≤ ml ∧ t = .int .i64 k ∧ Hid (Below U8.heap.size U8 ws)) (fun t _ => ml - (intOf t).toNat)
              case atStart => exact ⟨0, Nat.zero_le _, rfl, Lib.hid (Below.refl _ _)⟩
              case round =>
                rename World => ws
                obtain ⟨k, hk, rfl, HS⟩ := hrel
                by_cases hkm : k < ml
                · obtain ⟨b5, o5, e5, hb5, c0, c1, c2⟩ := (T3.out.below HS.out).at_ hkm
                  injection e5 with e5
                  injection e5 with e6 e7 _
                  subst e6 e7
                  have hkl : k < m.length := by rw [HML.out]; exact hkm
                  obtain ⟨⟨kd, xi, xa⟩, hz⟩ : ∃ e, ith m k = e := ⟨_, rfl⟩
                  rw [show jO m k = kd by unfold jO; rw [hz]] at c0
                  rw [show jA m k = xi by unfold jA; rw [hz]] at c1
                  rw [show jB m k = xa by unfold jB; rw [hz]] at c2
                  have hkd : (ith m k).1 = kd := by rw [hz]
                  have hlast := HLF.out.endLast hkl
                  rw [hkd, HML.out] at hlast
                  have hover := HLF.out.endOver
                  rw [HML.out] at hover
                  dsimp only at hover
                  have hborn := HLF.out.bornFirst hkl
                  rw [hkd] at hborn
                  have hfst : k = 0 → kd = 1 := fun q => by rw [← hkd, q]; exact HLF.out.born.1
                  have hov : k = ml - 1 → ((kd = 5 ∨ kd = 6) ↔ st = 7) := fun q => by rw [← q, hkd] at hover; exact hover
                  clear hz hover hkd
                  by_cases h5 : kd = 5
                  · as_aux_lemma =>
                      have hke : k = ml - 1 := hlast (.inl h5)
                      have hst : st = 7 := (hov hke).1 (.inl h5)
                      have t5 : (kd == 5) = true ∧ (kd != 5) = false := by constructor <;> (simp; omega)
                      obtain ⟨t5, t5n⟩ := t5
                      have t6 : (kd == 6) = false ∧ (kd != 6) = true := by constructor <;> (simp; omega)
                      obtain ⟨t6, t6n⟩ := t6
                      have t1 : (kd == 1) = false ∧ (kd != 1) = true := by constructor <;> (simp; omega)
                      obtain ⟨t1, t1n⟩ := t1
                      have ts : (st == 7) = true ∧ (st != 7) = false := by constructor <;> (simp; omega)
                      obtain ⟨ts, tsn⟩ := ts
                      clear h5 hst
                      have ekv : IntKind.i64.wrap ((ml : Int) - 1) = (k : Int) := by rw [IntKind.wrap_i64]; omega
                      have ekw : wrap64 ((ml : Int) - 1) = (k : Int) := by unfold wrap64; omega
                      clear hke
                      clear hlast hborn hfst hov
                      replace KT := Lib.hid (KT.out.below HS.out KT.out.lt)
                      have kt := Bk.new ws 41 #[.int .i64 kd, .int .i64 xi, .int .i64 xa]
                      have ba := (Below.refl ws.heap.size ws).alloc (Nat.le_refl _) (.cells #[.int .i64 kd, .int .i64 xi, .int .i64 xa] 41)
                      replace HS := Lib.hid (below3 HS.out ba)
                      replace KT := Lib.hid (KT.out.below ba KT.out.lt)
                      obtain ⟨W8, hW⟩ : ∃ W, ws.alloc (.cells #[.int .i64 kd, .int .i64 xi, .int .i64 xa] 41) = W := ⟨_, rfl⟩
                      obtain ⟨gE, hg⟩ : ∃ g, ws.heap.size = g := ⟨_, rfl⟩
                      rw [hW] at kt HS KT
                      rw [hg] at kt
                      have HW := Lib.hid hW
                      have HG := Lib.hid hg
                      have KE := Lib.hid kt
                      clear hW hg kt ba
                      go_upto_region 22 with fail
                      rw [HW.out]
                      try rw [HG.out]
                      clear HW HG
                      clear c0 c1 c2
                      obtain ⟨q0, q1, q2⟩ := KE.out.c3t
                      have lE := KE.out.lt
                      obtain ⟨qT_0, qT_1, qT_2, qT_3, qT_4, qT_5, qT_6, qT_7, qT_8, qT_9, qT_10⟩ := KT.out.c11
                      have lT := KT.out.lt
                      go_wp2_with fail
                      go_roundw
                      case rel => exact ⟨k + 1, by omega, by go_num, HS⟩
                      case measure => simp [intOf]; omega
                  · by_cases h6 : kd = 6
                    · as_aux_lemma =>
                        have hke : k = ml - 1 := hlast (.inr h6)
                        have hst : st = 7 := (hov hke).1 (.inr h6)
                        have t5 : (kd == 5) = false ∧ (kd != 5) = true := by constructor <;> (simp; omega)
                        obtain ⟨t5, t5n⟩ := t5
                        have t6 : (kd == 6) = true ∧ (kd != 6) = false := by constructor <;> (simp; omega)
                        obtain ⟨t6, t6n⟩ := t6
                        have t1 : (kd == 1) = false ∧ (kd != 1) = true := by constructor <;> (simp; omega)
                        obtain ⟨t1, t1n⟩ := t1
                        have ts : (st == 7) = true ∧ (st != 7) = false := by constructor <;> (simp; omega)
                        obtain ⟨ts, tsn⟩ := ts
                        clear h5 h6 hst
                        have ekv : IntKind.i64.wrap ((ml : Int) - 1) = (k : Int) := by rw [IntKind.wrap_i64]; omega
                        have ekw : wrap64 ((ml : Int) - 1) = (k : Int) := by unfold wrap64; omega
                        clear hke
                        clear hlast hborn hfst hov
                        replace KT := Lib.hid (KT.out.below HS.out KT.out.lt)
                        have kt := Bk.new ws 41 #[.int .i64 kd, .int .i64 xi, .int .i64 xa]
                        have ba := (Below.refl ws.heap.size ws).alloc (Nat.le_refl _) (.cells #[.int .i64 kd, .int .i64 xi, .int .i64 xa] 41)
                        replace HS := Lib.hid (below3 HS.out ba)
                        replace KT := Lib.hid (KT.out.below ba KT.out.lt)
                        obtain ⟨W8, hW⟩ : ∃ W, ws.alloc (.cells #[.int .i64 kd, .int .i64 xi, .int .i64 xa] 41) = W := ⟨_, rfl⟩
                        obtain ⟨gE, hg⟩ : ∃ g, ws.heap.size = g := ⟨_, rfl⟩
                        rw [hW] at kt HS KT
                        rw [hg] at kt
                        have HW := Lib.hid hW
                        have HG := Lib.hid hg
                        have KE := Lib.hid kt
                        clear hW hg kt ba
                        go_upto_region 22 with fail
                        rw [HW.out]
                        try rw [HG.out]
                        clear HW HG
                        clear c0 c1 c2
                        obtain ⟨q0, q1, q2⟩ := KE.out.c3t
                        have lE := KE.out.lt
                        obtain ⟨qT_0, qT_1, qT_2, qT_3, qT_4, qT_5, qT_6, qT_7, qT_8, qT_9, qT_10⟩ := KT.out.c11
                        have lT := KT.out.lt
                        go_wp2_with fail
                        go_roundw
                        case rel => exact ⟨k + 1, by omega, by go_num, HS⟩
                        case measure => simp [intOf]; omega
                    · by_cases hke : k = ml - 1
                      · by_cases hk0 : k = 0
                        · as_aux_lemma =>
                            have hst : st ≠ 7 := fun q => by have := (hov hke).2 q; omega
                            have ts : (st == 7) = false ∧ (st != 7) = true := by constructor <;> (simp; omega)
                            obtain ⟨ts, tsn⟩ := ts
                            clear hst
                            have t5 : (kd == 5) = false ∧ (kd != 5) = true := by constructor <;> (simp; omega)
                            obtain ⟨t5, t5n⟩ := t5
                            have t6 : (kd == 6) = false ∧ (kd != 6) = true := by constructor <;> (simp; omega)
                            obtain ⟨t6, t6n⟩ := t6
                            have hk1 : kd = 1 := hfst hk0
                            have t1 : (kd == 1) = true ∧ (kd != 1) = false := by constructor <;> (simp; omega)
                            obtain ⟨t1, t1n⟩ := t1
                            have tp : decide (0 < (k : Int)) = false := decide_eq_false (by omega)
                            have tpn : decide (0 < k) = false := decide_eq_false (by omega)
                            clear hk1
                            clear h5 h6
                            have ekv : IntKind.i64.wrap ((ml : Int) - 1) = (k : Int) := by rw [IntKind.wrap_i64]; omega
                            have ekw : wrap64 ((ml : Int) - 1) = (k : Int) := by unfold wrap64; omega
                            clear hke
                            clear hk0
                            clear hlast hborn hfst hov
                            replace KT := Lib.hid (KT.out.below HS.out KT.out.lt)
                            have kt := Bk.new ws 41 #[.int .i64 kd, .int .i64 xi, .int .i64 xa]
                            have ba := (Below.refl ws.heap.size ws).alloc (Nat.le_refl _) (.cells #[.int .i64 kd, .int .i64 xi, .int .i64 xa] 41)
                            replace HS := Lib.hid (below3 HS.out ba)
                            replace KT := Lib.hid (KT.out.below ba KT.out.lt)
                            obtain ⟨W8, hW⟩ : ∃ W, ws.alloc (.cells #[.int .i64 kd, .int .i64 xi, .int .i64 xa] 41) = W := ⟨_, rfl⟩
                            obtain ⟨gE, hg⟩ : ∃ g, ws.heap.size = g := ⟨_, rfl⟩
                            rw [hW] at kt HS KT
                            rw [hg] at kt
                            have HW := Lib.hid hW
                            have HG := Lib.hid hg
                            have KE := Lib.hid kt
                            clear hW hg kt ba
                            go_upto_region 22 with fail
                            rw [HW.out]
                            try rw [HG.out]
                            clear HW HG
                            clear c0 c1 c2
                            obtain ⟨q0, q1, q2⟩ := KE.out.c3t
                            have lE := KE.out.lt
                            obtain ⟨qT_0, qT_1, qT_2, qT_3, qT_4, qT_5, qT_6, qT_7, qT_8, qT_9, qT_10⟩ := KT.out.c11
                            have lT := KT.out.lt
                            go_wp2_with fail
                            go_roundw
                            case rel => exact ⟨k + 1, by omega, by go_num, HS⟩
                            case measure => simp [intOf]; omega
                        · as_aux_lemma =>
                            have hst : st ≠ 7 := fun q => by have := (hov hke).2 q; omega
                            have ts : (st == 7) = false ∧ (st != 7) = true := by constructor <;> (simp; omega)
                            obtain ⟨ts, tsn⟩ := ts
                            clear hst
                            have t5 : (kd == 5) = false ∧ (kd != 5) = true := by constructor <;> (simp; omega)
                            obtain ⟨t5, t5n⟩ := t5
                            have t6 : (kd == 6) = false ∧ (kd != 6) = true := by constructor <;> (simp; omega)
                            obtain ⟨t6, t6n⟩ := t6
                            have hk1 : kd ≠ 1 := fun q => hk0 (hborn q)
                            have t1 : (kd == 1) = false ∧ (kd != 1) = true := by constructor <;> (simp; omega)
                            obtain ⟨t1, t1n⟩ := t1
                            clear hk1
                            clear h5 h6
                            have ekv : IntKind.i64.wrap ((ml : Int) - 1) = (k : Int) := by rw [IntKind.wrap_i64]; omega
                            have ekw : wrap64 ((ml : Int) - 1) = (k : Int) := by unfold wrap64; omega
                            clear hke
                            clear hk0
                            clear hlast hborn hfst hov
                            replace KT := Lib.hid (KT.out.below HS.out KT.out.lt)
                            have kt := Bk.new ws 41 #[.int .i64 kd, .int .i64 xi, .int .i64 xa]
                            have ba := (Below.refl ws.heap.size ws).alloc (Nat.le_refl _) (.cells #[.int .i64 kd, .int .i64 xi, .int .i64 xa] 41)
                            replace HS := Lib.hid (below3 HS.out ba)
                            replace KT := Lib.hid (KT.out.below ba KT.out.lt)
                            obtain ⟨W8, hW⟩ : ∃ W, ws.alloc (.cells #[.int .i64 kd, .int .i64 xi, .int .i64 xa] 41) = W := ⟨_, rfl⟩
                            obtain ⟨gE, hg⟩ : ∃ g, ws.heap.size = g := ⟨_, rfl⟩
                            rw [hW] at kt HS KT
                            rw [hg] at kt
                            have HW := Lib.hid hW
                            have HG := Lib.hid hg
                            have KE := Lib.hid kt
                            clear hW hg kt ba
                            go_upto_region 22 with fail
                            rw [HW.out]
                            try rw [HG.out]
                            clear HW HG
                            clear c0 c1 c2
                            obtain ⟨q0, q1, q2⟩ := KE.out.c3t
                            have lE := KE.out.lt
                            obtain ⟨qT_0, qT_1, qT_2, qT_3, qT_4, qT_5, qT_6, qT_7, qT_8, qT_9, qT_10⟩ := KT.out.c11
                            have lT := KT.out.lt
                            go_wp2_with fail
                            go_roundw
                            case rel => exact ⟨k + 1, by omega, by go_num, HS⟩
                            case measure => simp [intOf]; omega
                      · by_cases hk0 : k = 0
                        · as_aux_lemma =>
                            have t5 : (kd == 5) = false ∧ (kd != 5) = true := by constructor <;> (simp; omega)
                            obtain ⟨t5, t5n⟩ := t5
                            have t6 : (kd == 6) = false ∧ (kd != 6) = true := by constructor <;> (simp; omega)
                            obtain ⟨t6, t6n⟩ := t6
                            have hk1 : kd = 1 := hfst hk0
                            have t1 : (kd == 1) = true ∧ (kd != 1) = false := by constructor <;> (simp; omega)
                            obtain ⟨t1, t1n⟩ := t1
                            have tp : decide (0 < (k : Int)) = false := decide_eq_false (by omega)
                            have tpn : decide (0 < k) = false := decide_eq_false (by omega)
                            clear hk1
                            clear h5 h6
                            have ekv : IntKind.i64.wrap ((ml : Int) - 1) = ((ml - 1 : Nat) : Int) := by rw [IntKind.wrap_i64]; omega
                            have ekw : wrap64 ((ml : Int) - 1) = ((ml - 1 : Nat) : Int) := by unfold wrap64; omega
                            have ekn : ((k : Int) != ((ml - 1 : Nat) : Int)) = true := by simp; omega
                            have ekm : ((k : Int) == ((ml - 1 : Nat) : Int)) = false := by simp; omega
                            clear hke
                            clear hk0
                            clear hlast hborn hfst hov
                            replace KT := Lib.hid (KT.out.below HS.out KT.out.lt)
                            have kt := Bk.new ws 41 #[.int .i64 kd, .int .i64 xi, .int .i64 xa]
                            have ba := (Below.refl ws.heap.size ws).alloc (Nat.le_refl _) (.cells #[.int .i64 kd, .int .i64 xi, .int .i64 xa] 41)
                            replace HS := Lib.hid (below3 HS.out ba)
                            replace KT := Lib.hid (KT.out.below ba KT.out.lt)
                            obtain ⟨W8, hW⟩ : ∃ W, ws.alloc (.cells #[.int .i64 kd, .int .i64 xi, .int .i64 xa] 41) = W := ⟨_, rfl⟩
                            obtain ⟨gE, hg⟩ : ∃ g, ws.heap.size = g := ⟨_, rfl⟩
                            rw [hW] at kt HS KT
                            rw [hg] at kt
                            have HW := Lib.hid hW
                            have HG := Lib.hid hg
                            have KE := Lib.hid kt
                            clear hW hg kt ba
                            go_upto_region 22 with fail
                            rw [HW.out]
                            try rw [HG.out]
                            clear HW HG
                            clear c0 c1 c2
                            obtain ⟨q0, q1, q2⟩ := KE.out.c3t
                            have lE := KE.out.lt
                            obtain ⟨qT_0, qT_1, qT_2, qT_3, qT_4, qT_5, qT_6, qT_7, qT_8, qT_9, qT_10⟩ := KT.out.c11
                            have lT := KT.out.lt
                            go_wp2_with fail
                            go_roundw
                            case rel => exact ⟨k + 1, by omega, by go_num, HS⟩
                            case measure => simp [intOf]; omega
                        · as_aux_lemma =>
                            have t5 : (kd == 5) = false ∧ (kd != 5) = true := by constructor <;> (simp; omega)
                            obtain ⟨t5, t5n⟩ := t5
                            have t6 : (kd == 6) = false ∧ (kd != 6) = true := by constructor <;> (simp; omega)
                            obtain ⟨t6, t6n⟩ := t6
                            have hk1 : kd ≠ 1 := fun q => hk0 (hborn q)
                            have t1 : (kd == 1) = false ∧ (kd != 1) = true := by constructor <;> (simp; omega)
                            obtain ⟨t1, t1n⟩ := t1
                            clear hk1
                            clear h5 h6
                            have ekv : IntKind.i64.wrap ((ml : Int) - 1) = ((ml - 1 : Nat) : Int) := by rw [IntKind.wrap_i64]; omega
                            have ekw : wrap64 ((ml : Int) - 1) = ((ml - 1 : Nat) : Int) := by unfold wrap64; omega
                            have ekn : ((k : Int) != ((ml - 1 : Nat) : Int)) = true := by simp; omega
                            have ekm : ((k : Int) == ((ml - 1 : Nat) : Int)) = false := by simp; omega
                            clear hke
                            clear hk0
                            clear hlast hborn hfst hov
                            replace KT := Lib.hid (KT.out.below HS.out KT.out.lt)
                            have kt := Bk.new ws 41 #[.int .i64 kd, .int .i64 xi, .int .i64 xa]
                            have ba := (Below.refl ws.heap.size ws).alloc (Nat.le_refl _) (.cells #[.int .i64 kd, .int .i64 xi, .int .i64 xa] 41)
                            replace HS := Lib.hid (below3 HS.out ba)
                            replace KT := Lib.hid (KT.out.below ba KT.out.lt)
                            obtain ⟨W8, hW⟩ : ∃ W, ws.alloc (.cells #[.int .i64 kd, .int .i64 xi, .int .i64 xa] 41) = W := ⟨_, rfl⟩
                            obtain ⟨gE, hg⟩ : ∃ g, ws.heap.size = g := ⟨_, rfl⟩
                            rw [hW] at kt HS KT
                            rw [hg] at kt
                            have HW := Lib.hid hW
                            have HG := Lib.hid hg
                            have KE := Lib.hid kt
                            clear hW hg kt ba
                            go_upto_region 22 with fail
                            rw [HW.out]
                            try rw [HG.out]
                            clear HW HG
                            clear c0 c1 c2
                            obtain ⟨q0, q1, q2⟩ := KE.out.c3t
                            have lE := KE.out.lt
                            obtain ⟨qT_0, qT_1, qT_2, qT_3, qT_4, qT_5, qT_6, qT_7, qT_8, qT_9, qT_10⟩ := KT.out.c11
                            have lT := KT.out.lt
                            go_wp2_with fail
                            go_roundw
                            case rel => exact ⟨k + 1, by omega, by go_num, HS⟩
                            case measure => simp [intOf]; omega
                · as_aux_lemma =>
                    have hkk : k = ml := by omega
                    subst hkk
                    have HBF := Lib.hid (below3 HB.out HS.out)
                    go_wp2_with fail
                    go_roundw
                    case rel => exact ⟨j + 1, by omega, by go_num, HBF⟩
                    case measure => simp [intOf]; omega
            · obtain rfl : j = q := by omega
              have BF := Lib.hid (BB.out.trans (HB.out.mono BB.out.size))
              go_wp2_with fail
              go_ret
              exact ⟨rfl, BF.out⟩
        · have HT : Hid (tasksT P l = ([], 2)) := Lib.hid (tasksT_bad h hb)
          clear h hb
          have BB := Lib.hid (Below.refl w.heap.size w)
          go_enter Tryd.func6, Tryd.ntmps6
          go_wp2_with fail
          refine (live_any _ (HF.out.le BB.out)).mono ?_
          try dsimp only
          rintro e U1 ⟨rfl, bU1⟩
          replace BB := Lib.hid (below3 BB.out bU1)
          clear bU1
          go_wp2_with fail
          refine (few_any F np cp P _ (HPP.out.below BB.out)).mono ?_
          rw [HFW.out]
          try dsimp only
          rintro e U2 ⟨rfl, hw⟩
          have hw2 := hw.symm
          subst hw2
          clear hw
          go_wp2_with fail
          refine (tasks_pr F A np cp n c P l _ (HF.out.le BB.out) (HPP.out.below BB.out) (HL.out.below BB.out)).mono ?_
          unfold TasksP
          rw [HT.out]
          try dsimp only
          rintro e U3 ⟨A1, c1, rfl, ow, bU3⟩
          replace BB := Lib.hid (below3 BB.out bU3)
          clear bU3
          have T1 := Lib.hid ow
          clear ow
          go_wp2_with fail
          go_ret
          exact ⟨rfl, BB.out⟩
      · have HT : Hid (tasksT P l = ([], 1)) := Lib.hid (tasksT_no h)
        clear h
        have BB := Lib.hid (Below.refl w.heap.size w)
        go_enter Tryd.func6, Tryd.ntmps6
        go_wp2_with fail
        refine (live_any _ (HF.out.le BB.out)).mono ?_
        try dsimp only
        rintro e U1 ⟨rfl, bU1⟩
        replace BB := Lib.hid (below3 BB.out bU1)
        clear bU1
        go_wp2_with fail
        refine (few_any F np cp P _ (HPP.out.below BB.out)).mono ?_
        rw [HFW.out]
        try dsimp only
        rintro e U2 ⟨rfl, hw⟩
        have hw2 := hw.symm
        subst hw2
        clear hw
        go_wp2_with fail
        refine (tasks_pr F A np cp n c P l _ (HF.out.le BB.out) (HPP.out.below BB.out) (HL.out.below BB.out)).mono ?_
        unfold TasksP
        rw [HT.out]
        try dsimp only
        rintro e U3 ⟨A1, c1, rfl, ow, bU3⟩
        replace BB := Lib.hid (below3 BB.out bU3)
        clear bU3
        have T1 := Lib.hid ow
        clear ow
        go_wp2_with fail
        go_ret
        exact ⟨rfl, BB.out⟩
    · have HFW := Lib.hid hfw
      have tn : decide (100 < (n : Int)) = true := decide_eq_true (by omega)
      have tnn : decide (100 < n) = true := decide_eq_true (by omega)
      clear hfw hn
      have BB := Lib.hid (Below.refl w.heap.size w)
      go_enter Tryd.func6, Tryd.ntmps6
      go_wp2_with fail
      refine (live_any _ (HF.out.le BB.out)).mono ?_
      try dsimp only
      rintro e U1 ⟨rfl, bU1⟩
      replace BB := Lib.hid (below3 BB.out bU1)
      clear bU1
      go_wp2_with fail
      refine (few_any F np cp P _ (HPP.out.below BB.out)).mono ?_
      rw [HFW.out]
      try dsimp only
      rintro e U2 ⟨rfl, hw⟩
      have hw2 := hw.symm
      subst hw2
      clear hw
      go_wp2_with fail
      go_ret
      exact ⟨rfl, BB.out⟩
  · have HFW : Hid (fewB P = false) := Lib.hid (by simpa using hfw)
    clear hfw
    have BB := Lib.hid (Below.refl w.heap.size w)
    go_enter Tryd.func6, Tryd.ntmps6
    go_wp2_with fail
    refine (live_any _ (HF.out.le BB.out)).mono ?_
    try dsimp only
    rintro e U1 ⟨rfl, bU1⟩
    replace BB := Lib.hid (below3 BB.out bU1)
    clear bU1
    go_wp2_with fail
    refine (few_any F np cp P _ (HPP.out.below BB.out)).mono ?_
    rw [HFW.out]
    try dsimp only
    rintro e U2 ⟨rfl, hw⟩
    have hw2 := hw.symm
    subst hw2
    clear hw
    go_wp2_with fail
    go_ret
    exact ⟨rfl, BB.out⟩

end Go.Proofs.YtfhlligcbpnkkaaDoor

/-
  The tied card of the law TraceEnds of layer 18 holds, for every input, where the table of states reads as the program's own text lays it: a task is born once, nothing comes behind its end, and it does no more units than its program has. No condition beyond the row's own.
-/
namespace Go.Proofs.YtfhlligcbpnkkaaDoor
open Go.ChangeShapes Go.WideShapes Go.ChangeAt Go.RowKit

set_option maxRecDepth 100000 in
theorem lends_gives {H : Type} (enc : TypeId × Value → H) : GivesL Fol enc 6 Tryd.f6.params.toList Rows.traceEndsSpec := by
  intro W base args ds p hval hA hsz hlt hL
  rw [Tryd.params6] at hA hval hsz
  obtain ⟨v0, vs0, d0, ds0, p0, q0, hargs, rfl, rfl, h0, r0⟩ := trodAll_cons hA
  obtain ⟨v1, vs1, d1, ds1, p1, q1, rfl, rfl, rfl, h1, r1⟩ := trodAll_cons r0
  obtain ⟨rfl, rfl, rfl⟩ := trodAll_nil r1
  obtain rfl : args = #[v0, v1] := by cases args; simp_all
  refine ⟨rfl, ?_⟩
  obtain ⟨A0, n0, c0, l0, rfl, hx0⟩ := open_prgs (hval 0 22 v0 rfl rfl) h0 (fun x hx => hlt x (by simp [hx]))
  obtain ⟨A1, n1, c1, l1, rfl, hx1⟩ := open_evs (hval 1 23 v1 rfl rfl) h1 (fun x hx => hlt x (by simp [hx]))
  exact lends_any A0 A1 n0 c0 n1 c1 l0 l1 W hL hx0 hx1

set_option maxRecDepth 100000 in
theorem lends_lifted (os : Os) (started : os.Started) (H : Type) (enc : TypeId × Value → H) :
    ReturnsInHanded {} Tryd.checked os 6 .any (fun w args => (Rows.traceEndsSpec.pre enc Tryd.prog Tryd.f6 Rows.traceEndsRow.domain false w args ∧ laidMetH Tryd.prog [("ravel/life.follows", Rows.laid_ravel_life_follows)] w) ∧ sizedMet enc Tryd.prog Tryd.f6 (OpenSpec.ofChange Rows.traceEndsSpec) false w args) (Rows.traceEndsSpec.post enc Tryd.prog Tryd.f6 false true false false) :=
  lawL_lifted os started 6 Tryd.f6 Rows.traceEndsSpec [("ravel/life.follows", Rows.laid_ravel_life_follows)] Fol fol_of_laid rfl rfl (by kernel_rfl) Tryd.func6 (by kernel_rfl) (by kernel_rfl)
    (ChangeSpec.witness_shaped (enc := enc) (C := Tryd.checked) (os := os) (X := fun w _ => laidMetH Tryd.prog [("ravel/life.follows", Rows.laid_ravel_life_follows)] w) false (World.laidAll Tryd.prog os [("ravel/life.follows", Rows.laid_ravel_life_follows)]) #[.slice none 0 0, .slice none 0 0] 8 (World.laidAll_os _ _ _)
      (World.shaped_of_ZipB (by kernel_rfl) (by kernel_rfl)) (by kernel_rfl) (by kernel_rfl) (by kernel_rfl) (by rw [MakeChecks.laidMetH_plain _ _ _ (by kernel_rfl)]; exact laidMet_laidAll _ (by kernel_rfl) (by kernel_rfl)))
    (lends_gives enc)

set_option maxRecDepth 100000 in
theorem TraceEnds_row : Rows.TraceEndsSaid :=
  OpenClaim.holds_of_wide 6 Tryd.f6 rfl rfl rfl rfl rfl rfl rfl ⟨rfl, rfl, rfl, rfl, rfl⟩ rfl rfl rfl rfl rfl (by kernel_rfl) Tryd.func6 (by kernel_rfl)
    (of_decide_eq_true (by kernel_rfl)) (by unfold Func.isWrapper; first | (rw [if_pos (by decide +kernel)]; kernel_rfl) | (rw [if_neg (by decide +kernel)]; exact ⟨rfl, rfl⟩))
    (fun os started H enc _ => lends_lifted os started H enc)

set_option maxRecDepth 100000 in
theorem TraceEnds_holds : Rows.TraceEndsCardSaid :=
  Claim7.holds_tied_plain_at .later [] [.data] true Rows.traceEndsCard.stood.harness false
    TraceEnds_row (fun _ h => by cases h) (by kernel_rfl) (fun _ h => by cases h) traceEnds_row_tie rfl ⟨rfl, rfl⟩ (by kernel_rfl) (by kernel_rfl)
    (fun f fn hf hfn => by
      obtain rfl : f = 6 := Option.some.inj ((show Tryd.prog.funcNamed "ravel/ravellaw18.TraceEnds" = some 6 by kernel_rfl).symm.trans hf) |>.symm
      obtain rfl : fn = Tryd.f6 := (Option.some.inj (Tryd.func6.symm.trans hfn)).symm
      exact ⟨by kernel_rfl, fun j t ht => by
        rw [Tryd.params6] at ht
        have hm : t ∈ [22, 23] := by simpa using Array.mem_of_getElem? ht
        have hall : ([22, 23].all fun u => !Tryd.prog.wantsStandIn u) = true := by kernel_rfl
        exact (show Tryd.prog.wantsStandIn t = false by simpa using List.all_eq_true.1 hall t hm)⟩)
    (by kernel_rfl)

#print axioms TraceEnds_holds
end Go.Proofs.YtfhlligcbpnkkaaDoor

import Derived.Test.YtfhlligcbpnkkaaDoorMg17

/-
  Layer 18, the document: a task's own life: ways of its round.
-/
namespace Go.Proofs.YtfhlligcbpnkkaaDoor
open Go.RowKit

set_option maxRecDepth 100000 in
set_option maxHeartbeats 2000000 in
theorem one_w0 (F A : Option Addr) (np cp n c : Nat) (P : List (List I3)) (l : List I3) (w wr : World) (gT : Nat) (K : Act → World → Prop) (_HPP : Hid (Prgs w F np P)) (PL : Hid (P.length = np)) (HL : Hid (Prog w A n c l)) (LX : Hid (l.length = n)) (_HOK : Hid (okL P)) (_hnc : n ≤ c ∧ c ≤ 9223372036854775807) (_hpc : np ≤ 9223372036854775807) (_HBR : Hid (w.heap.size ≤ w.heap.size)) (HBT : Hid (w.heap.size ≤ gT)) (NR_T : Hid (w.heap.size ≠ gT)) (k : Nat) (id tn pg pc un k0 k1 k2 k3 st rn : Int) (OW : Hid (Below w.heap.size w wr ∧ Bk wr w.heap.size 44 #[.int .i64 0, .int .i64 0, .int .i64 0, .int .i64 0, .int .i64 0, .int .i64 0, .int .i64 0, .int .i64 0, .int .i64 0, .int .i64 0, .int .i64 0] ∧ Bk wr gT 44 (tc ⟨id, tn, pg, pc, un, k0, k1, k2, k3, st, rn⟩))) (_HT : Hid (oneT P (l.take k) = some ⟨id, tn, pg, pc, un, k0, k1, k2, k3, st, rn⟩)) (kd xi xa : Int) (hz : ith l k = (kd, xi, xa)) (hkn : k < n) (hk1 : k = 0) (h1 : kd = 1) (hn : okT (newT xi 0 xa)) (_h2 : xa < np) (u5 u7 u8 u9 u10 u11 u12 u13 u14 u15 u16 u17 u18 u23 u24 u25 u26 u27 u28 u29 u30 u31 u32 u33 u34 u35 u36 u37 u38 u39 u40 u41 u42 u43 u44 u45 u46 u47 u48 u49 u50 u51 u52 u53 u54 u55 u56 u57 u58 u59 u60 u61 u62 u63 u64 u65 u66 u67 u68 u69 u70 u71 u72 u73 u74 u75 u76 u77 u78 u79 u80 u81 u82 u83 u84 u85 u86 u87 u88 u89 u90 u91 u92 u93 u94 u95 u96 u97 u98 u99 u100 u101 u102 u103 u104 u105 u106 u107 u108 u109 u110 u111 u112 u113 u114 u115 u116 u117 u118 u119 u120 u121 u122 u123 u124 u125 u126 u127 u128 u129 u130 u131 u132 u133 u134 u135 u136 u137 u138 u139 u140 u141 u142 u143 u144 u145 u146 u147 u148 u149 u150 u151 u152 u153 u154 u155 u156 u157 u158 u159 u160 u161 u162 u163 u164 u165 u166 u167 u168 u169 u170 u171 u172 u173 u174 u175 u176 u177 u178 u179 u180 u181 u182 u183 u184 u185 u186 : Value) :
    Code.wp Tryd.prog oneBody (Exit.then (fun (a1 : Act) (w1 : World) => (∃ u5 u7 u8 u9 u10 u11 u12 u13 u14 u15 u16 u17 u18 u22 u23 u24 u25 u26 u27 u28 u29 u30 u31 u32 u33 u34 u35 u36 u37 u38 u39 u40 u41 u42 u43 u44 u45 u46 u47 u48 u49 u50 u51 u52 u53 u54 u55 u56 u57 u58 u59 u60 u61 u62 u63 u64 u65 u66 u67 u68 u69 u70 u71 u72 u73 u74 u75 u76 u77 u78 u79 u80 u81 u82 u83 u84 u85 u86 u87 u88 u89 u90 u91 u92 u93 u94 u95 u96 u97 u98 u99 u100 u101 u102 u103 u104 u105 u106 u107 u108 u109 u110 u111 u112 u113 u114 u115 u116 u117 u118 u119 u120 u121 u122 u123 u124 u125 u126 u127 u128 u129 u130 u131 u132 u133 u134 u135 u136 u137 u138 u139 u140 u141 u142 u143 u144 u145 u146 u147 u148 u149 u150 u151 u152 u153 u154 u155 u156 u157 u158 u159 u160 u161 u162 u163 u164 u165 u166 u167 u168 u169 u170 u171 u172 u173 u174 u175 u176 u177 u178 u179 u180 u181 u182 u183 u184 u185 u186 : Value, (∃ (k : Nat) (T : Tk), k ≤ n ∧ u22 = .int .i64 k ∧ Hid (Below w.heap.size w w1 ∧ Bk w1 w.heap.size 44 #[.int .i64 0, .int .i64 0, .int .i64 0, .int .i64 0, .int .i64 0, .int .i64 0, .int .i64 0, .int .i64 0, .int .i64 0, .int .i64 0, .int .i64 0] ∧ Bk w1 gT 44 (tc T)) ∧ Hid (oneT P (l.take k) = some T)) ∧ a1 = ⟨#[.slice F np cp, .slice A n c, undef, undef, .pointer (some ⟨w.heap.size, 0, none⟩), u5, .pointer (some ⟨gT, 0, none⟩), u7, u8, u9, u10, u11, u12, u13, u14, u15, u16, u17, u18, .agg #[.int .i64 0, .int .i64 0, .int .i64 0, .int .i64 0, .int .i64 0, .int .i64 0, .int .i64 0, .int .i64 0, .int .i64 0, .int .i64 0, .int .i64 0], .slice A n c, .int .i64 (n : Int), u22, u23, u24, u25, u26, u27, u28, u29, u30, u31, u32, u33, u34, u35, u36, u37, u38, u39, u40, u41, u42, u43, u44, u45, u46, u47, u48, u49, u50, u51, u52, u53, u54, u55, u56, u57, u58, u59, u60, u61, u62, u63, u64, u65, u66, u67, u68, u69, u70, u71, u72, u73, u74, u75, u76, u77, u78, u79, u80, u81, u82, u83, u84, u85, u86, u87, u88, u89, u90, u91, u92, u93, u94, u95, u96, u97, u98, u99, u100, u101, u102, u103, u104, u105, u106, u107, u108, u109, u110, u111, u112, u113, u114, u115, u116, u117, u118, u119, u120, u121, u122, u123, u124, u125, u126, u127, u128, u129, u130, u131, u132, u133, u134, u135, u136, u137, u138, u139, u140, u141, u142, u143, u144, u145, u146, u147, u148, u149, u150, u151, u152, u153, u154, u155, u156, u157, u158, u159, u160, u161, u162, u163, u164, u165, u166, u167, u168, u169, u170, u171, u172, u173, u174, u175, u176, u177, u178, u179, u180, u181, u182, u183, u184, u185, u186, undef], []⟩) ∧ n - (intOf (a1.tmps.getD 22 undef)).toNat < n - (intOf ((⟨#[.slice F np cp, .slice A n c, undef, undef, .pointer (some ⟨w.heap.size, 0, none⟩), u5, .pointer (some ⟨gT, 0, none⟩), u7, u8, u9, u10, u11, u12, u13, u14, u15, u16, u17, u18, .agg #[.int .i64 0, .int .i64 0, .int .i64 0, .int .i64 0, .int .i64 0, .int .i64 0, .int .i64 0, .int .i64 0, .int .i64 0, .int .i64 0, .int .i64 0], .slice A n c, .int .i64 (n : Int), (.int .i64 (k : Int)), u23, u24, u25, u26, u27, u28, u29, u30, u31, u32, u33, u34, u35, u36, u37, u38, u39, u40, u41, u42, u43, u44, u45, u46, u47, u48, u49, u50, u51, u52, u53, u54, u55, u56, u57, u58, u59, u60, u61, u62, u63, u64, u65, u66, u67, u68, u69, u70, u71, u72, u73, u74, u75, u76, u77, u78, u79, u80, u81, u82, u83, u84, u85, u86, u87, u88, u89, u90, u91, u92, u93, u94, u95, u96, u97, u98, u99, u100, u101, u102, u103, u104, u105, u106, u107, u108, u109, u110, u111, u112, u113, u114, u115, u116, u117, u118, u119, u120, u121, u122, u123, u124, u125, u126, u127, u128, u129, u130, u131, u132, u133, u134, u135, u136, u137, u138, u139, u140, u141, u142, u143, u144, u145, u146, u147, u148, u149, u150, u151, u152, u153, u154, u155, u156, u157, u158, u159, u160, u161, u162, u163, u164, u165, u166, u167, u168, u169, u170, u171, u172, u173, u174, u175, u176, u177, u178, u179, u180, u181, u182, u183, u184, u185, u186, undef], []⟩ : Act).tmps.getD 22 undef)).toNat) (Exit.inBlock 0 (Exit.then K (bodyPost Tryd.prog Tryd.f27 (OneP P l w))))) ⟨#[.slice F np cp, .slice A n c, undef, undef, .pointer (some ⟨w.heap.size, 0, none⟩), u5, .pointer (some ⟨gT, 0, none⟩), u7, u8, u9, u10, u11, u12, u13, u14, u15, u16, u17, u18, .agg #[.int .i64 0, .int .i64 0, .int .i64 0, .int .i64 0, .int .i64 0, .int .i64 0, .int .i64 0, .int .i64 0, .int .i64 0, .int .i64 0, .int .i64 0], .slice A n c, .int .i64 (n : Int), (.int .i64 (k : Int)), u23, u24, u25, u26, u27, u28, u29, u30, u31, u32, u33, u34, u35, u36, u37, u38, u39, u40, u41, u42, u43, u44, u45, u46, u47, u48, u49, u50, u51, u52, u53, u54, u55, u56, u57, u58, u59, u60, u61, u62, u63, u64, u65, u66, u67, u68, u69, u70, u71, u72, u73, u74, u75, u76, u77, u78, u79, u80, u81, u82, u83, u84, u85, u86, u87, u88, u89, u90, u91, u92, u93, u94, u95, u96, u97, u98, u99, u100, u101, u102, u103, u104, u105, u106, u107, u108, u109, u110, u111, u112, u113, u114, u115, u116, u117, u118, u119, u120, u121, u122, u123, u124, u125, u126, u127, u128, u129, u130, u131, u132, u133, u134, u135, u136, u137, u138, u139, u140, u141, u142, u143, u144, u145, u146, u147, u148, u149, u150, u151, u152, u153, u154, u155, u156, u157, u158, u159, u160, u161, u162, u163, u164, u165, u166, u167, u168, u169, u170, u171, u172, u173, u174, u175, u176, u177, u178, u179, u180, u181, u182, u183, u184, u185, u186, undef], []⟩ wr := by
  conv => arg 2; whnf
  have BB := Lib.hid OW.out.1
  have KR := Lib.hid OW.out.2.1
  have KT : Hid (Bk wr gT 44 #[.int .i64 id, .int .i64 tn, .int .i64 pg, .int .i64 pc, .int .i64 un, .int .i64 k0, .int .i64 k1, .int .i64 k2, .int .i64 k3, .int .i64 st, .int .i64 rn]) := Lib.hid OW.out.2.2
  clear OW
  obtain ⟨b, o, rfl, hb, c0, c1, c2⟩ := (HL.out.below BB.out).at_ hkn
  have hkl : k < l.length := by rw [LX.out]; exact hkn
  rw [show jO l k = kd by unfold jO; rw [hz]] at c0
  rw [show jA l k = xi by unfold jA; rw [hz]] at c1
  rw [show jB l k = xa by unfold jB; rw [hz]] at c2
  have HZ := Lib.hid hz
  subst hk1
  simp only [Nat.zero_mul, Nat.add_zero] at c0 c1 c2
  have HNW : Hid (newR xi 0 xa = (0, newT xi 0 xa)) := Lib.hid (by unfold newR; rw [if_pos hn])
  have t0 : (kd != 1) = false := by simpa using h1
  have t1 : decide ((np : Int) ≤ xa) = false := decide_eq_false (by omega)
  clear hz
  have HS : Hid (oneT P (l.take (0 + 1)) = some (newT xi 0 xa)) := Lib.hid (by rw [show (0 + 1 : Nat) = 1 from rfl, oneT_first (by omega), HZ.out]; unfold bornT; dsimp only; rw [if_pos ⟨h1, hn, by have := PL.out; omega⟩])
  clear h1 hn
  have kn := Bk.new wr 41 #[.int .i64 kd, .int .i64 xi, .int .i64 xa]
  have ba := (Below.refl wr.heap.size wr).alloc (Nat.le_refl _) (.cells #[.int .i64 kd, .int .i64 xi, .int .i64 xa] 41)
  have hgb := BB.out.size
  have nR_E := Nat.ne_of_lt KR.out.lt
  have nT_E := Nat.ne_of_lt KT.out.lt
  replace BB := Lib.hid (below3 BB.out ba)
  replace KR := Lib.hid (KR.out.below ba KR.out.lt)
  replace KT := Lib.hid (KT.out.below ba KT.out.lt)
  obtain ⟨gE, hg⟩ : ∃ g, wr.heap.size = g := ⟨_, rfl⟩
  obtain ⟨V42, hW⟩ : ∃ W, wr.alloc (.cells #[.int .i64 kd, .int .i64 xi, .int .i64 xa] 41) = W := ⟨_, rfl⟩
  have KE := Lib.hid kn
  rw [hW] at BB KE KR KT
  rw [hg] at KE hgb nR_E nT_E
  have HGE := Lib.hid hg
  have HWE := Lib.hid hW
  have HBE := Lib.hid hgb
  have NR_E := Lib.hid nR_E
  have NT_E := Lib.hid nT_E
  clear hW hg kn ba hgb nR_E nT_E
  go_upto_region 5 with fail
  rw [HWE.out]
  try rw [HGE.out]
  clear HWE HGE
  skip
  obtain ⟨qE_0, qE_1, qE_2⟩ := KE.out.c3
  have lE := KE.out.lt
  go_wp2_with fail
  refine (rnew_any xi 0 xa _).mono ?_
  rw [HNW.out]
  rintro e U43 ⟨rfl, bU43⟩
  clear qE_0 qE_1 qE_2 lE
  replace BB := Lib.hid (below3 BB.out bU43)
  replace KR := Lib.hid (KR.out.below bU43 KR.out.lt)
  replace KT := Lib.hid (KT.out.below bU43 KT.out.lt)
  replace KE := Lib.hid (KE.out.below bU43 KE.out.lt)
  clear bU43
  dsimp only [tc, newT, zT]
  have kn := Bk.new U43 44 #[.int .i64 xi, .int .i64 0, .int .i64 xa, .int .i64 0, .int .i64 0, .int .i64 ((-1)), .int .i64 ((-1)), .int .i64 ((-1)), .int .i64 ((-1)), .int .i64 1, .int .i64 0]
  have ba := (Below.refl U43.heap.size U43).alloc (Nat.le_refl _) (.cells #[.int .i64 xi, .int .i64 0, .int .i64 xa, .int .i64 0, .int .i64 0, .int .i64 ((-1)), .int .i64 ((-1)), .int .i64 ((-1)), .int .i64 ((-1)), .int .i64 1, .int .i64 0] 44)
  have hgb := BB.out.size
  have nR_N := Nat.ne_of_lt KR.out.lt
  have nT_N := Nat.ne_of_lt KT.out.lt
  have nE_N := Nat.ne_of_lt KE.out.lt
  replace BB := Lib.hid (below3 BB.out ba)
  replace KR := Lib.hid (KR.out.below ba KR.out.lt)
  replace KT := Lib.hid (KT.out.below ba KT.out.lt)
  replace KE := Lib.hid (KE.out.below ba KE.out.lt)
  obtain ⟨gN, hg⟩ : ∃ g, U43.heap.size = g := ⟨_, rfl⟩
  obtain ⟨V45, hW⟩ : ∃ W, U43.alloc (.cells #[.int .i64 xi, .int .i64 0, .int .i64 xa, .int .i64 0, .int .i64 0, .int .i64 ((-1)), .int .i64 ((-1)), .int .i64 ((-1)), .int .i64 ((-1)), .int .i64 1, .int .i64 0] 44) = W := ⟨_, rfl⟩
  have KN := Lib.hid kn
  rw [hW] at BB KN KR KT KE
  rw [hg] at KN hgb nR_N nT_N nE_N
  have HGN := Lib.hid hg
  have HWN := Lib.hid hW
  have HBN := Lib.hid hgb
  have NR_N := Lib.hid nR_N
  have NT_N := Lib.hid nT_N
  have NE_N := Lib.hid nE_N
  clear hW hg kn ba hgb nR_N nT_N nE_N
  go_upto_region 7 with fail
  rw [HWN.out]
  try rw [HGN.out]
  clear HWN HGN
  obtain ⟨qE_0, qE_1, qE_2⟩ := KE.out.c3
  have lE := KE.out.lt
  go_upto_region 9 with fail
  clear qE_0 qE_1 qE_2 lE
  obtain ⟨qN_0, qN_1, qN_2, qN_3, qN_4, qN_5, qN_6, qN_7, qN_8, qN_9, qN_10⟩ := KN.out.c11
  have lN := KN.out.lt
  obtain ⟨fN_0, fN_1, fN_2, fN_3, fN_4, fN_5, fN_6, fN_7, fN_8, fN_9, fN_10⟩ := KN.out.f11
  obtain ⟨qT_0, qT_1, qT_2, qT_3, qT_4, qT_5, qT_6, qT_7, qT_8, qT_9, qT_10⟩ := KT.out.c11
  have lT := KT.out.lt
  obtain ⟨fT_0, fT_1, fT_2, fT_3, fT_4, fT_5, fT_6, fT_7, fT_8, fT_9, fT_10⟩ := KT.out.f11
  have x0 := Lib.hid (bk_set11 KT.out (.int .i64 xi) (.int .i64 0) (.int .i64 xa) (.int .i64 0) (.int .i64 0) (.int .i64 ((-1))) (.int .i64 ((-1))) (.int .i64 ((-1))) (.int .i64 ((-1))) (.int .i64 1) (.int .i64 0))
  have xb := Lib.hid (below_set11 (g := gT) BB.out HBT.out (.int .i64 xi) (.int .i64 0) (.int .i64 xa) (.int .i64 0) (.int .i64 0) (.int .i64 ((-1))) (.int .i64 ((-1))) (.int .i64 ((-1))) (.int .i64 ((-1))) (.int .i64 1) (.int .i64 0))
  have xr := Lib.hid (far_set11 KR.out NR_T.out (.int .i64 xi) (.int .i64 0) (.int .i64 xa) (.int .i64 0) (.int .i64 0) (.int .i64 ((-1))) (.int .i64 ((-1))) (.int .i64 ((-1))) (.int .i64 ((-1))) (.int .i64 1) (.int .i64 0))
  unfold set11 at x0 xb xr
  go_wp2_with fail
  go_roundw
  case rel => exact ⟨0 + 1, newT xi 0 xa, by omega, by go_num, Lib.hid ⟨xb.out, xr.out, x0.out⟩, HS⟩
  case measure => simp [intOf]; omega

set_option maxRecDepth 100000 in
set_option maxHeartbeats 2000000 in
theorem one_w1 (F A : Option Addr) (np cp n c : Nat) (P : List (List I3)) (l : List I3) (w wr : World) (gT : Nat) (K : Act → World → Prop) (_HPP : Hid (Prgs w F np P)) (PL : Hid (P.length = np)) (HL : Hid (Prog w A n c l)) (LX : Hid (l.length = n)) (_HOK : Hid (okL P)) (_hnc : n ≤ c ∧ c ≤ 9223372036854775807) (_hpc : np ≤ 9223372036854775807) (HBR : Hid (w.heap.size ≤ w.heap.size)) (_HBT : Hid (w.heap.size ≤ gT)) (_NR_T : Hid (w.heap.size ≠ gT)) (k : Nat) (id tn pg pc un k0 k1 k2 k3 st rn : Int) (OW : Hid (Below w.heap.size w wr ∧ Bk wr w.heap.size 44 #[.int .i64 0, .int .i64 0, .int .i64 0, .int .i64 0, .int .i64 0, .int .i64 0, .int .i64 0, .int .i64 0, .int .i64 0, .int .i64 0, .int .i64 0] ∧ Bk wr gT 44 (tc ⟨id, tn, pg, pc, un, k0, k1, k2, k3, st, rn⟩))) (_HT : Hid (oneT P (l.take k) = some ⟨id, tn, pg, pc, un, k0, k1, k2, k3, st, rn⟩)) (kd xi xa : Int) (hz : ith l k = (kd, xi, xa)) (hkn : k < n) (hk1 : k = 0) (h1 : kd = 1) (hn : okT (newT xi 0 xa)) (_h2 : ¬ (xa < np)) (u5 u7 u8 u9 u10 u11 u12 u13 u14 u15 u16 u17 u18 u23 u24 u25 u26 u27 u28 u29 u30 u31 u32 u33 u34 u35 u36 u37 u38 u39 u40 u41 u42 u43 u44 u45 u46 u47 u48 u49 u50 u51 u52 u53 u54 u55 u56 u57 u58 u59 u60 u61 u62 u63 u64 u65 u66 u67 u68 u69 u70 u71 u72 u73 u74 u75 u76 u77 u78 u79 u80 u81 u82 u83 u84 u85 u86 u87 u88 u89 u90 u91 u92 u93 u94 u95 u96 u97 u98 u99 u100 u101 u102 u103 u104 u105 u106 u107 u108 u109 u110 u111 u112 u113 u114 u115 u116 u117 u118 u119 u120 u121 u122 u123 u124 u125 u126 u127 u128 u129 u130 u131 u132 u133 u134 u135 u136 u137 u138 u139 u140 u141 u142 u143 u144 u145 u146 u147 u148 u149 u150 u151 u152 u153 u154 u155 u156 u157 u158 u159 u160 u161 u162 u163 u164 u165 u166 u167 u168 u169 u170 u171 u172 u173 u174 u175 u176 u177 u178 u179 u180 u181 u182 u183 u184 u185 u186 : Value) :
    Code.wp Tryd.prog oneBody (Exit.then (fun (a1 : Act) (w1 : World) => (∃ u5 u7 u8 u9 u10 u11 u12 u13 u14 u15 u16 u17 u18 u22 u23 u24 u25 u26 u27 u28 u29 u30 u31 u32 u33 u34 u35 u36 u37 u38 u39 u40 u41 u42 u43 u44 u45 u46 u47 u48 u49 u50 u51 u52 u53 u54 u55 u56 u57 u58 u59 u60 u61 u62 u63 u64 u65 u66 u67 u68 u69 u70 u71 u72 u73 u74 u75 u76 u77 u78 u79 u80 u81 u82 u83 u84 u85 u86 u87 u88 u89 u90 u91 u92 u93 u94 u95 u96 u97 u98 u99 u100 u101 u102 u103 u104 u105 u106 u107 u108 u109 u110 u111 u112 u113 u114 u115 u116 u117 u118 u119 u120 u121 u122 u123 u124 u125 u126 u127 u128 u129 u130 u131 u132 u133 u134 u135 u136 u137 u138 u139 u140 u141 u142 u143 u144 u145 u146 u147 u148 u149 u150 u151 u152 u153 u154 u155 u156 u157 u158 u159 u160 u161 u162 u163 u164 u165 u166 u167 u168 u169 u170 u171 u172 u173 u174 u175 u176 u177 u178 u179 u180 u181 u182 u183 u184 u185 u186 : Value, (∃ (k : Nat) (T : Tk), k ≤ n ∧ u22 = .int .i64 k ∧ Hid (Below w.heap.size w w1 ∧ Bk w1 w.heap.size 44 #[.int .i64 0, .int .i64 0, .int .i64 0, .int .i64 0, .int .i64 0, .int .i64 0, .int .i64 0, .int .i64 0, .int .i64 0, .int .i64 0, .int .i64 0] ∧ Bk w1 gT 44 (tc T)) ∧ Hid (oneT P (l.take k) = some T)) ∧ a1 = ⟨#[.slice F np cp, .slice A n c, undef, undef, .pointer (some ⟨w.heap.size, 0, none⟩), u5, .pointer (some ⟨gT, 0, none⟩), u7, u8, u9, u10, u11, u12, u13, u14, u15, u16, u17, u18, .agg #[.int .i64 0, .int .i64 0, .int .i64 0, .int .i64 0, .int .i64 0, .int .i64 0, .int .i64 0, .int .i64 0, .int .i64 0, .int .i64 0, .int .i64 0], .slice A n c, .int .i64 (n : Int), u22, u23, u24, u25, u26, u27, u28, u29, u30, u31, u32, u33, u34, u35, u36, u37, u38, u39, u40, u41, u42, u43, u44, u45, u46, u47, u48, u49, u50, u51, u52, u53, u54, u55, u56, u57, u58, u59, u60, u61, u62, u63, u64, u65, u66, u67, u68, u69, u70, u71, u72, u73, u74, u75, u76, u77, u78, u79, u80, u81, u82, u83, u84, u85, u86, u87, u88, u89, u90, u91, u92, u93, u94, u95, u96, u97, u98, u99, u100, u101, u102, u103, u104, u105, u106, u107, u108, u109, u110, u111, u112, u113, u114, u115, u116, u117, u118, u119, u120, u121, u122, u123, u124, u125, u126, u127, u128, u129, u130, u131, u132, u133, u134, u135, u136, u137, u138, u139, u140, u141, u142, u143, u144, u145, u146, u147, u148, u149, u150, u151, u152, u153, u154, u155, u156, u157, u158, u159, u160, u161, u162, u163, u164, u165, u166, u167, u168, u169, u170, u171, u172, u173, u174, u175, u176, u177, u178, u179, u180, u181, u182, u183, u184, u185, u186, undef], []⟩) ∧ n - (intOf (a1.tmps.getD 22 undef)).toNat < n - (intOf ((⟨#[.slice F np cp, .slice A n c, undef, undef, .pointer (some ⟨w.heap.size, 0, none⟩), u5, .pointer (some ⟨gT, 0, none⟩), u7, u8, u9, u10, u11, u12, u13, u14, u15, u16, u17, u18, .agg #[.int .i64 0, .int .i64 0, .int .i64 0, .int .i64 0, .int .i64 0, .int .i64 0, .int .i64 0, .int .i64 0, .int .i64 0, .int .i64 0, .int .i64 0], .slice A n c, .int .i64 (n : Int), (.int .i64 (k : Int)), u23, u24, u25, u26, u27, u28, u29, u30, u31, u32, u33, u34, u35, u36, u37, u38, u39, u40, u41, u42, u43, u44, u45, u46, u47, u48, u49, u50, u51, u52, u53, u54, u55, u56, u57, u58, u59, u60, u61, u62, u63, u64, u65, u66, u67, u68, u69, u70, u71, u72, u73, u74, u75, u76, u77, u78, u79, u80, u81, u82, u83, u84, u85, u86, u87, u88, u89, u90, u91, u92, u93, u94, u95, u96, u97, u98, u99, u100, u101, u102, u103, u104, u105, u106, u107, u108, u109, u110, u111, u112, u113, u114, u115, u116, u117, u118, u119, u120, u121, u122, u123, u124, u125, u126, u127, u128, u129, u130, u131, u132, u133, u134, u135, u136, u137, u138, u139, u140, u141, u142, u143, u144, u145, u146, u147, u148, u149, u150, u151, u152, u153, u154, u155, u156, u157, u158, u159, u160, u161, u162, u163, u164, u165, u166, u167, u168, u169, u170, u171, u172, u173, u174, u175, u176, u177, u178, u179, u180, u181, u182, u183, u184, u185, u186, undef], []⟩ : Act).tmps.getD 22 undef)).toNat) (Exit.inBlock 0 (Exit.then K (bodyPost Tryd.prog Tryd.f27 (OneP P l w))))) ⟨#[.slice F np cp, .slice A n c, undef, undef, .pointer (some ⟨w.heap.size, 0, none⟩), u5, .pointer (some ⟨gT, 0, none⟩), u7, u8, u9, u10, u11, u12, u13, u14, u15, u16, u17, u18, .agg #[.int .i64 0, .int .i64 0, .int .i64 0, .int .i64 0, .int .i64 0, .int .i64 0, .int .i64 0, .int .i64 0, .int .i64 0, .int .i64 0, .int .i64 0], .slice A n c, .int .i64 (n : Int), (.int .i64 (k : Int)), u23, u24, u25, u26, u27, u28, u29, u30, u31, u32, u33, u34, u35, u36, u37, u38, u39, u40, u41, u42, u43, u44, u45, u46, u47, u48, u49, u50, u51, u52, u53, u54, u55, u56, u57, u58, u59, u60, u61, u62, u63, u64, u65, u66, u67, u68, u69, u70, u71, u72, u73, u74, u75, u76, u77, u78, u79, u80, u81, u82, u83, u84, u85, u86, u87, u88, u89, u90, u91, u92, u93, u94, u95, u96, u97, u98, u99, u100, u101, u102, u103, u104, u105, u106, u107, u108, u109, u110, u111, u112, u113, u114, u115, u116, u117, u118, u119, u120, u121, u122, u123, u124, u125, u126, u127, u128, u129, u130, u131, u132, u133, u134, u135, u136, u137, u138, u139, u140, u141, u142, u143, u144, u145, u146, u147, u148, u149, u150, u151, u152, u153, u154, u155, u156, u157, u158, u159, u160, u161, u162, u163, u164, u165, u166, u167, u168, u169, u170, u171, u172, u173, u174, u175, u176, u177, u178, u179, u180, u181, u182, u183, u184, u185, u186, undef], []⟩ wr := by
  conv => arg 2; whnf
  have BB := Lib.hid OW.out.1
  have KR := Lib.hid OW.out.2.1
  have KT : Hid (Bk wr gT 44 #[.int .i64 id, .int .i64 tn, .int .i64 pg, .int .i64 pc, .int .i64 un, .int .i64 k0, .int .i64 k1, .int .i64 k2, .int .i64 k3, .int .i64 st, .int .i64 rn]) := Lib.hid OW.out.2.2
  clear OW
  obtain ⟨b, o, rfl, hb, c0, c1, c2⟩ := (HL.out.below BB.out).at_ hkn
  have hkl : k < l.length := by rw [LX.out]; exact hkn
  rw [show jO l k = kd by unfold jO; rw [hz]] at c0
  rw [show jA l k = xi by unfold jA; rw [hz]] at c1
  rw [show jB l k = xa by unfold jB; rw [hz]] at c2
  have HZ := Lib.hid hz
  subst hk1
  simp only [Nat.zero_mul, Nat.add_zero] at c0 c1 c2
  have HNW : Hid (newR xi 0 xa = (0, newT xi 0 xa)) := Lib.hid (by unfold newR; rw [if_pos hn])
  have t0 : (kd != 1) = false := by simpa using h1
  have t1 : decide ((np : Int) ≤ xa) = true := decide_eq_true (by omega)
  clear hz
  have HS : Hid (oneT P (l.take (0 + 1)) = none) := Lib.hid (by rw [show (0 + 1 : Nat) = 1 from rfl, oneT_first (by omega), HZ.out]; unfold bornT; dsimp only; rw [if_neg (fun q => by have := q.2.2; have := PL.out; omega)])
  clear h1 hn
  have kn := Bk.new wr 41 #[.int .i64 kd, .int .i64 xi, .int .i64 xa]
  have ba := (Below.refl wr.heap.size wr).alloc (Nat.le_refl _) (.cells #[.int .i64 kd, .int .i64 xi, .int .i64 xa] 41)
  have hgb := BB.out.size
  have nR_E := Nat.ne_of_lt KR.out.lt
  have nT_E := Nat.ne_of_lt KT.out.lt
  replace BB := Lib.hid (below3 BB.out ba)
  replace KR := Lib.hid (KR.out.below ba KR.out.lt)
  replace KT := Lib.hid (KT.out.below ba KT.out.lt)
  obtain ⟨gE, hg⟩ : ∃ g, wr.heap.size = g := ⟨_, rfl⟩
  obtain ⟨V42, hW⟩ : ∃ W, wr.alloc (.cells #[.int .i64 kd, .int .i64 xi, .int .i64 xa] 41) = W := ⟨_, rfl⟩
  have KE := Lib.hid kn
  rw [hW] at BB KE KR KT
  rw [hg] at KE hgb nR_E nT_E
  have HGE := Lib.hid hg
  have HWE := Lib.hid hW
  have HBE := Lib.hid hgb
  have NR_E := Lib.hid nR_E
  have NT_E := Lib.hid nT_E
  clear hW hg kn ba hgb nR_E nT_E
  go_upto_region 5 with fail
  rw [HWE.out]
  try rw [HGE.out]
  clear HWE HGE
  skip
  obtain ⟨qE_0, qE_1, qE_2⟩ := KE.out.c3
  have lE := KE.out.lt
  go_wp2_with fail
  refine (rnew_any xi 0 xa _).mono ?_
  rw [HNW.out]
  rintro e U43 ⟨rfl, bU43⟩
  clear qE_0 qE_1 qE_2 lE
  replace BB := Lib.hid (below3 BB.out bU43)
  replace KR := Lib.hid (KR.out.below bU43 KR.out.lt)
  replace KT := Lib.hid (KT.out.below bU43 KT.out.lt)
  replace KE := Lib.hid (KE.out.below bU43 KE.out.lt)
  clear bU43
  dsimp only [tc, newT, zT]
  have kn := Bk.new U43 44 #[.int .i64 xi, .int .i64 0, .int .i64 xa, .int .i64 0, .int .i64 0, .int .i64 ((-1)), .int .i64 ((-1)), .int .i64 ((-1)), .int .i64 ((-1)), .int .i64 1, .int .i64 0]
  have ba := (Below.refl U43.heap.size U43).alloc (Nat.le_refl _) (.cells #[.int .i64 xi, .int .i64 0, .int .i64 xa, .int .i64 0, .int .i64 0, .int .i64 ((-1)), .int .i64 ((-1)), .int .i64 ((-1)), .int .i64 ((-1)), .int .i64 1, .int .i64 0] 44)
  have hgb := BB.out.size
  have nR_N := Nat.ne_of_lt KR.out.lt
  have nT_N := Nat.ne_of_lt KT.out.lt
  have nE_N := Nat.ne_of_lt KE.out.lt
  replace BB := Lib.hid (below3 BB.out ba)
  replace KR := Lib.hid (KR.out.below ba KR.out.lt)
  replace KT := Lib.hid (KT.out.below ba KT.out.lt)
  replace KE := Lib.hid (KE.out.below ba KE.out.lt)
  obtain ⟨gN, hg⟩ : ∃ g, U43.heap.size = g := ⟨_, rfl⟩
  obtain ⟨V45, hW⟩ : ∃ W, U43.alloc (.cells #[.int .i64 xi, .int .i64 0, .int .i64 xa, .int .i64 0, .int .i64 0, .int .i64 ((-1)), .int .i64 ((-1)), .int .i64 ((-1)), .int .i64 ((-1)), .int .i64 1, .int .i64 0] 44) = W := ⟨_, rfl⟩
  have KN := Lib.hid kn
  rw [hW] at BB KN KR KT KE
  rw [hg] at KN hgb nR_N nT_N nE_N
  have HGN := Lib.hid hg
  have HWN := Lib.hid hW
  have HBN := Lib.hid hgb
  have NR_N := Lib.hid nR_N
  have NT_N := Lib.hid nT_N
  have NE_N := Lib.hid nE_N
  clear hW hg kn ba hgb nR_N nT_N nE_N
  go_upto_region 7 with fail
  rw [HWN.out]
  try rw [HGN.out]
  clear HWN HGN
  obtain ⟨qE_0, qE_1, qE_2⟩ := KE.out.c3
  have lE := KE.out.lt
  have HNO : Hid (oneT P l = none) := Lib.hid (oneT_none HS.out)
  go_upto_region 8 with fail
  clear qE_0 qE_1 qE_2 lE
  obtain ⟨qT_0, qT_1, qT_2, qT_3, qT_4, qT_5, qT_6, qT_7, qT_8, qT_9, qT_10⟩ := KT.out.c11
  have lT := KT.out.lt
  obtain ⟨qR_0, qR_1, qR_2, qR_3, qR_4, qR_5, qR_6, qR_7, qR_8, qR_9, qR_10⟩ := KR.out.c11
  have lR := KR.out.lt
  obtain ⟨fR_0, fR_1, fR_2, fR_3, fR_4, fR_5, fR_6, fR_7, fR_8, fR_9, fR_10⟩ := KR.out.f11
  have B_R := Lib.hid (below_set11 (g := w.heap.size) BB.out HBR.out (.int .i64 id) (.int .i64 tn) (.int .i64 pg) (.int .i64 pc) (.int .i64 un) (.int .i64 k0) (.int .i64 k1) (.int .i64 k2) (.int .i64 k3) (.int .i64 st) (.int .i64 rn))
  have S_R := Lib.hid (bk_set11 KR.out (.int .i64 id) (.int .i64 tn) (.int .i64 pg) (.int .i64 pc) (.int .i64 un) (.int .i64 k0) (.int .i64 k1) (.int .i64 k2) (.int .i64 k3) (.int .i64 st) (.int .i64 rn))
  unfold set11 at B_R
  go_wp2
  obtain ⟨rR_0, rR_1, rR_2, rR_3, rR_4, rR_5, rR_6, rR_7, rR_8, rR_9, rR_10⟩ := Bk.c11 (S_R.out)
  unfold set11 at rR_0 rR_1 rR_2 rR_3 rR_4 rR_5 rR_6 rR_7 rR_8 rR_9 rR_10
  exact bodyPost_ret (v := .tuple #[.agg #[.int .i64 id, .int .i64 tn, .int .i64 pg, .int .i64 pc, .int .i64 un, .int .i64 k0, .int .i64 k1, .int .i64 k2, .int .i64 k3, .int .i64 st, .int .i64 rn], .bool false]) (by simp [results, Tryd.results27, go_sem, rR_0, rR_1, rR_2, rR_3, rR_4, rR_5, rR_6, rR_7, rR_8, rR_9, rR_10]) rfl ⟨⟨id, tn, pg, pc, un, k0, k1, k2, k3, st, rn⟩, by rw [HNO.out]; rfl, (fun u hu => by rw [HNO.out] at hu; cases hu), B_R.out⟩

set_option maxRecDepth 100000 in
set_option maxHeartbeats 2000000 in
theorem one_w2 (F A : Option Addr) (np cp n c : Nat) (P : List (List I3)) (l : List I3) (w wr : World) (gT : Nat) (K : Act → World → Prop) (_HPP : Hid (Prgs w F np P)) (_PL : Hid (P.length = np)) (HL : Hid (Prog w A n c l)) (LX : Hid (l.length = n)) (_HOK : Hid (okL P)) (_hnc : n ≤ c ∧ c ≤ 9223372036854775807) (_hpc : np ≤ 9223372036854775807) (HBR : Hid (w.heap.size ≤ w.heap.size)) (_HBT : Hid (w.heap.size ≤ gT)) (_NR_T : Hid (w.heap.size ≠ gT)) (k : Nat) (id tn pg pc un k0 k1 k2 k3 st rn : Int) (OW : Hid (Below w.heap.size w wr ∧ Bk wr w.heap.size 44 #[.int .i64 0, .int .i64 0, .int .i64 0, .int .i64 0, .int .i64 0, .int .i64 0, .int .i64 0, .int .i64 0, .int .i64 0, .int .i64 0, .int .i64 0] ∧ Bk wr gT 44 (tc ⟨id, tn, pg, pc, un, k0, k1, k2, k3, st, rn⟩))) (_HT : Hid (oneT P (l.take k) = some ⟨id, tn, pg, pc, un, k0, k1, k2, k3, st, rn⟩)) (kd xi xa : Int) (hz : ith l k = (kd, xi, xa)) (hkn : k < n) (hk1 : k = 0) (h1 : kd = 1) (hn : ¬ (okT (newT xi 0 xa))) (u5 u7 u8 u9 u10 u11 u12 u13 u14 u15 u16 u17 u18 u23 u24 u25 u26 u27 u28 u29 u30 u31 u32 u33 u34 u35 u36 u37 u38 u39 u40 u41 u42 u43 u44 u45 u46 u47 u48 u49 u50 u51 u52 u53 u54 u55 u56 u57 u58 u59 u60 u61 u62 u63 u64 u65 u66 u67 u68 u69 u70 u71 u72 u73 u74 u75 u76 u77 u78 u79 u80 u81 u82 u83 u84 u85 u86 u87 u88 u89 u90 u91 u92 u93 u94 u95 u96 u97 u98 u99 u100 u101 u102 u103 u104 u105 u106 u107 u108 u109 u110 u111 u112 u113 u114 u115 u116 u117 u118 u119 u120 u121 u122 u123 u124 u125 u126 u127 u128 u129 u130 u131 u132 u133 u134 u135 u136 u137 u138 u139 u140 u141 u142 u143 u144 u145 u146 u147 u148 u149 u150 u151 u152 u153 u154 u155 u156 u157 u158 u159 u160 u161 u162 u163 u164 u165 u166 u167 u168 u169 u170 u171 u172 u173 u174 u175 u176 u177 u178 u179 u180 u181 u182 u183 u184 u185 u186 : Value) :
    Code.wp Tryd.prog oneBody (Exit.then (fun (a1 : Act) (w1 : World) => (∃ u5 u7 u8 u9 u10 u11 u12 u13 u14 u15 u16 u17 u18 u22 u23 u24 u25 u26 u27 u28 u29 u30 u31 u32 u33 u34 u35 u36 u37 u38 u39 u40 u41 u42 u43 u44 u45 u46 u47 u48 u49 u50 u51 u52 u53 u54 u55 u56 u57 u58 u59 u60 u61 u62 u63 u64 u65 u66 u67 u68 u69 u70 u71 u72 u73 u74 u75 u76 u77 u78 u79 u80 u81 u82 u83 u84 u85 u86 u87 u88 u89 u90 u91 u92 u93 u94 u95 u96 u97 u98 u99 u100 u101 u102 u103 u104 u105 u106 u107 u108 u109 u110 u111 u112 u113 u114 u115 u116 u117 u118 u119 u120 u121 u122 u123 u124 u125 u126 u127 u128 u129 u130 u131 u132 u133 u134 u135 u136 u137 u138 u139 u140 u141 u142 u143 u144 u145 u146 u147 u148 u149 u150 u151 u152 u153 u154 u155 u156 u157 u158 u159 u160 u161 u162 u163 u164 u165 u166 u167 u168 u169 u170 u171 u172 u173 u174 u175 u176 u177 u178 u179 u180 u181 u182 u183 u184 u185 u186 : Value, (∃ (k : Nat) (T : Tk), k ≤ n ∧ u22 = .int .i64 k ∧ Hid (Below w.heap.size w w1 ∧ Bk w1 w.heap.size 44 #[.int .i64 0, .int .i64 0, .int .i64 0, .int .i64 0, .int .i64 0, .int .i64 0, .int .i64 0, .int .i64 0, .int .i64 0, .int .i64 0, .int .i64 0] ∧ Bk w1 gT 44 (tc T)) ∧ Hid (oneT P (l.take k) = some T)) ∧ a1 = ⟨#[.slice F np cp, .slice A n c, undef, undef, .pointer (some ⟨w.heap.size, 0, none⟩), u5, .pointer (some ⟨gT, 0, none⟩), u7, u8, u9, u10, u11, u12, u13, u14, u15, u16, u17, u18, .agg #[.int .i64 0, .int .i64 0, .int .i64 0, .int .i64 0, .int .i64 0, .int .i64 0, .int .i64 0, .int .i64 0, .int .i64 0, .int .i64 0, .int .i64 0], .slice A n c, .int .i64 (n : Int), u22, u23, u24, u25, u26, u27, u28, u29, u30, u31, u32, u33, u34, u35, u36, u37, u38, u39, u40, u41, u42, u43, u44, u45, u46, u47, u48, u49, u50, u51, u52, u53, u54, u55, u56, u57, u58, u59, u60, u61, u62, u63, u64, u65, u66, u67, u68, u69, u70, u71, u72, u73, u74, u75, u76, u77, u78, u79, u80, u81, u82, u83, u84, u85, u86, u87, u88, u89, u90, u91, u92, u93, u94, u95, u96, u97, u98, u99, u100, u101, u102, u103, u104, u105, u106, u107, u108, u109, u110, u111, u112, u113, u114, u115, u116, u117, u118, u119, u120, u121, u122, u123, u124, u125, u126, u127, u128, u129, u130, u131, u132, u133, u134, u135, u136, u137, u138, u139, u140, u141, u142, u143, u144, u145, u146, u147, u148, u149, u150, u151, u152, u153, u154, u155, u156, u157, u158, u159, u160, u161, u162, u163, u164, u165, u166, u167, u168, u169, u170, u171, u172, u173, u174, u175, u176, u177, u178, u179, u180, u181, u182, u183, u184, u185, u186, undef], []⟩) ∧ n - (intOf (a1.tmps.getD 22 undef)).toNat < n - (intOf ((⟨#[.slice F np cp, .slice A n c, undef, undef, .pointer (some ⟨w.heap.size, 0, none⟩), u5, .pointer (some ⟨gT, 0, none⟩), u7, u8, u9, u10, u11, u12, u13, u14, u15, u16, u17, u18, .agg #[.int .i64 0, .int .i64 0, .int .i64 0, .int .i64 0, .int .i64 0, .int .i64 0, .int .i64 0, .int .i64 0, .int .i64 0, .int .i64 0, .int .i64 0], .slice A n c, .int .i64 (n : Int), (.int .i64 (k : Int)), u23, u24, u25, u26, u27, u28, u29, u30, u31, u32, u33, u34, u35, u36, u37, u38, u39, u40, u41, u42, u43, u44, u45, u46, u47, u48, u49, u50, u51, u52, u53, u54, u55, u56, u57, u58, u59, u60, u61, u62, u63, u64, u65, u66, u67, u68, u69, u70, u71, u72, u73, u74, u75, u76, u77, u78, u79, u80, u81, u82, u83, u84, u85, u86, u87, u88, u89, u90, u91, u92, u93, u94, u95, u96, u97, u98, u99, u100, u101, u102, u103, u104, u105, u106, u107, u108, u109, u110, u111, u112, u113, u114, u115, u116, u117, u118, u119, u120, u121, u122, u123, u124, u125, u126, u127, u128, u129, u130, u131, u132, u133, u134, u135, u136, u137, u138, u139, u140, u141, u142, u143, u144, u145, u146, u147, u148, u149, u150, u151, u152, u153, u154, u155, u156, u157, u158, u159, u160, u161, u162, u163, u164, u165, u166, u167, u168, u169, u170, u171, u172, u173, u174, u175, u176, u177, u178, u179, u180, u181, u182, u183, u184, u185, u186, undef], []⟩ : Act).tmps.getD 22 undef)).toNat) (Exit.inBlock 0 (Exit.then K (bodyPost Tryd.prog Tryd.f27 (OneP P l w))))) ⟨#[.slice F np cp, .slice A n c, undef, undef, .pointer (some ⟨w.heap.size, 0, none⟩), u5, .pointer (some ⟨gT, 0, none⟩), u7, u8, u9, u10, u11, u12, u13, u14, u15, u16, u17, u18, .agg #[.int .i64 0, .int .i64 0, .int .i64 0, .int .i64 0, .int .i64 0, .int .i64 0, .int .i64 0, .int .i64 0, .int .i64 0, .int .i64 0, .int .i64 0], .slice A n c, .int .i64 (n : Int), (.int .i64 (k : Int)), u23, u24, u25, u26, u27, u28, u29, u30, u31, u32, u33, u34, u35, u36, u37, u38, u39, u40, u41, u42, u43, u44, u45, u46, u47, u48, u49, u50, u51, u52, u53, u54, u55, u56, u57, u58, u59, u60, u61, u62, u63, u64, u65, u66, u67, u68, u69, u70, u71, u72, u73, u74, u75, u76, u77, u78, u79, u80, u81, u82, u83, u84, u85, u86, u87, u88, u89, u90, u91, u92, u93, u94, u95, u96, u97, u98, u99, u100, u101, u102, u103, u104, u105, u106, u107, u108, u109, u110, u111, u112, u113, u114, u115, u116, u117, u118, u119, u120, u121, u122, u123, u124, u125, u126, u127, u128, u129, u130, u131, u132, u133, u134, u135, u136, u137, u138, u139, u140, u141, u142, u143, u144, u145, u146, u147, u148, u149, u150, u151, u152, u153, u154, u155, u156, u157, u158, u159, u160, u161, u162, u163, u164, u165, u166, u167, u168, u169, u170, u171, u172, u173, u174, u175, u176, u177, u178, u179, u180, u181, u182, u183, u184, u185, u186, undef], []⟩ wr := by
  conv => arg 2; whnf
  have BB := Lib.hid OW.out.1
  have KR := Lib.hid OW.out.2.1
  have KT : Hid (Bk wr gT 44 #[.int .i64 id, .int .i64 tn, .int .i64 pg, .int .i64 pc, .int .i64 un, .int .i64 k0, .int .i64 k1, .int .i64 k2, .int .i64 k3, .int .i64 st, .int .i64 rn]) := Lib.hid OW.out.2.2
  clear OW
  obtain ⟨b, o, rfl, hb, c0, c1, c2⟩ := (HL.out.below BB.out).at_ hkn
  have hkl : k < l.length := by rw [LX.out]; exact hkn
  rw [show jO l k = kd by unfold jO; rw [hz]] at c0
  rw [show jA l k = xi by unfold jA; rw [hz]] at c1
  rw [show jB l k = xa by unfold jB; rw [hz]] at c2
  have HZ := Lib.hid hz
  subst hk1
  simp only [Nat.zero_mul, Nat.add_zero] at c0 c1 c2
  have HNW : Hid (newR xi 0 xa = (1, zT)) := Lib.hid (by unfold newR; rw [if_neg hn])
  have t0 : (kd != 1) = false := by simpa using h1
  clear hz
  have HS : Hid (oneT P (l.take (0 + 1)) = none) := Lib.hid (by rw [show (0 + 1 : Nat) = 1 from rfl, oneT_first (by omega), HZ.out]; unfold bornT; dsimp only; rw [if_neg (fun q => hn q.2.1)])
  clear h1 hn
  have kn := Bk.new wr 41 #[.int .i64 kd, .int .i64 xi, .int .i64 xa]
  have ba := (Below.refl wr.heap.size wr).alloc (Nat.le_refl _) (.cells #[.int .i64 kd, .int .i64 xi, .int .i64 xa] 41)
  have hgb := BB.out.size
  have nR_E := Nat.ne_of_lt KR.out.lt
  have nT_E := Nat.ne_of_lt KT.out.lt
  replace BB := Lib.hid (below3 BB.out ba)
  replace KR := Lib.hid (KR.out.below ba KR.out.lt)
  replace KT := Lib.hid (KT.out.below ba KT.out.lt)
  obtain ⟨gE, hg⟩ : ∃ g, wr.heap.size = g := ⟨_, rfl⟩
  obtain ⟨V42, hW⟩ : ∃ W, wr.alloc (.cells #[.int .i64 kd, .int .i64 xi, .int .i64 xa] 41) = W := ⟨_, rfl⟩
  have KE := Lib.hid kn
  rw [hW] at BB KE KR KT
  rw [hg] at KE hgb nR_E nT_E
  have HGE := Lib.hid hg
  have HWE := Lib.hid hW
  have HBE := Lib.hid hgb
  have NR_E := Lib.hid nR_E
  have NT_E := Lib.hid nT_E
  clear hW hg kn ba hgb nR_E nT_E
  go_upto_region 5 with fail
  rw [HWE.out]
  try rw [HGE.out]
  clear HWE HGE
  skip
  obtain ⟨qE_0, qE_1, qE_2⟩ := KE.out.c3
  have lE := KE.out.lt
  go_wp2_with fail
  refine (rnew_any xi 0 xa _).mono ?_
  rw [HNW.out]
  rintro e U43 ⟨rfl, bU43⟩
  clear qE_0 qE_1 qE_2 lE
  replace BB := Lib.hid (below3 BB.out bU43)
  replace KR := Lib.hid (KR.out.below bU43 KR.out.lt)
  replace KT := Lib.hid (KT.out.below bU43 KT.out.lt)
  replace KE := Lib.hid (KE.out.below bU43 KE.out.lt)
  clear bU43
  dsimp only [tc, newT, zT]
  have kn := Bk.new U43 44 #[.int .i64 0, .int .i64 0, .int .i64 0, .int .i64 0, .int .i64 0, .int .i64 0, .int .i64 0, .int .i64 0, .int .i64 0, .int .i64 0, .int .i64 0]
  have ba := (Below.refl U43.heap.size U43).alloc (Nat.le_refl _) (.cells #[.int .i64 0, .int .i64 0, .int .i64 0, .int .i64 0, .int .i64 0, .int .i64 0, .int .i64 0, .int .i64 0, .int .i64 0, .int .i64 0, .int .i64 0] 44)
  have hgb := BB.out.size
  have nR_N := Nat.ne_of_lt KR.out.lt
  have nT_N := Nat.ne_of_lt KT.out.lt
  have nE_N := Nat.ne_of_lt KE.out.lt
  replace BB := Lib.hid (below3 BB.out ba)
  replace KR := Lib.hid (KR.out.below ba KR.out.lt)
  replace KT := Lib.hid (KT.out.below ba KT.out.lt)
  replace KE := Lib.hid (KE.out.below ba KE.out.lt)
  obtain ⟨gN, hg⟩ : ∃ g, U43.heap.size = g := ⟨_, rfl⟩
  obtain ⟨V45, hW⟩ : ∃ W, U43.alloc (.cells #[.int .i64 0, .int .i64 0, .int .i64 0, .int .i64 0, .int .i64 0, .int .i64 0, .int .i64 0, .int .i64 0, .int .i64 0, .int .i64 0, .int .i64 0] 44) = W := ⟨_, rfl⟩
  have KN := Lib.hid kn
  rw [hW] at BB KN KR KT KE
  rw [hg] at KN hgb nR_N nT_N nE_N
  have HGN := Lib.hid hg
  have HWN := Lib.hid hW
  have HBN := Lib.hid hgb
  have NR_N := Lib.hid nR_N
  have NT_N := Lib.hid nT_N
  have NE_N := Lib.hid nE_N
  clear hW hg kn ba hgb nR_N nT_N nE_N
  go_upto_region 7 with fail
  rw [HWN.out]
  try rw [HGN.out]
  clear HWN HGN
  obtain ⟨qE_0, qE_1, qE_2⟩ := KE.out.c3
  have lE := KE.out.lt
  have HNO : Hid (oneT P l = none) := Lib.hid (oneT_none HS.out)
  go_upto_region 8 with fail
  clear qE_0 qE_1 qE_2 lE
  obtain ⟨qT_0, qT_1, qT_2, qT_3, qT_4, qT_5, qT_6, qT_7, qT_8, qT_9, qT_10⟩ := KT.out.c11
  have lT := KT.out.lt
  obtain ⟨qR_0, qR_1, qR_2, qR_3, qR_4, qR_5, qR_6, qR_7, qR_8, qR_9, qR_10⟩ := KR.out.c11
  have lR := KR.out.lt
  obtain ⟨fR_0, fR_1, fR_2, fR_3, fR_4, fR_5, fR_6, fR_7, fR_8, fR_9, fR_10⟩ := KR.out.f11
  have B_R := Lib.hid (below_set11 (g := w.heap.size) BB.out HBR.out (.int .i64 id) (.int .i64 tn) (.int .i64 pg) (.int .i64 pc) (.int .i64 un) (.int .i64 k0) (.int .i64 k1) (.int .i64 k2) (.int .i64 k3) (.int .i64 st) (.int .i64 rn))
  have S_R := Lib.hid (bk_set11 KR.out (.int .i64 id) (.int .i64 tn) (.int .i64 pg) (.int .i64 pc) (.int .i64 un) (.int .i64 k0) (.int .i64 k1) (.int .i64 k2) (.int .i64 k3) (.int .i64 st) (.int .i64 rn))
  unfold set11 at B_R
  go_wp2
  obtain ⟨rR_0, rR_1, rR_2, rR_3, rR_4, rR_5, rR_6, rR_7, rR_8, rR_9, rR_10⟩ := Bk.c11 (S_R.out)
  unfold set11 at rR_0 rR_1 rR_2 rR_3 rR_4 rR_5 rR_6 rR_7 rR_8 rR_9 rR_10
  exact bodyPost_ret (v := .tuple #[.agg #[.int .i64 id, .int .i64 tn, .int .i64 pg, .int .i64 pc, .int .i64 un, .int .i64 k0, .int .i64 k1, .int .i64 k2, .int .i64 k3, .int .i64 st, .int .i64 rn], .bool false]) (by simp [results, Tryd.results27, go_sem, rR_0, rR_1, rR_2, rR_3, rR_4, rR_5, rR_6, rR_7, rR_8, rR_9, rR_10]) rfl ⟨⟨id, tn, pg, pc, un, k0, k1, k2, k3, st, rn⟩, by rw [HNO.out]; rfl, (fun u hu => by rw [HNO.out] at hu; cases hu), B_R.out⟩

set_option maxRecDepth 100000 in
set_option maxHeartbeats 2000000 in
theorem one_w3 (F A : Option Addr) (np cp n c : Nat) (P : List (List I3)) (l : List I3) (w wr : World) (gT : Nat) (K : Act → World → Prop) (_HPP : Hid (Prgs w F np P)) (_PL : Hid (P.length = np)) (HL : Hid (Prog w A n c l)) (LX : Hid (l.length = n)) (_HOK : Hid (okL P)) (_hnc : n ≤ c ∧ c ≤ 9223372036854775807) (_hpc : np ≤ 9223372036854775807) (HBR : Hid (w.heap.size ≤ w.heap.size)) (_HBT : Hid (w.heap.size ≤ gT)) (_NR_T : Hid (w.heap.size ≠ gT)) (k : Nat) (id tn pg pc un k0 k1 k2 k3 st rn : Int) (OW : Hid (Below w.heap.size w wr ∧ Bk wr w.heap.size 44 #[.int .i64 0, .int .i64 0, .int .i64 0, .int .i64 0, .int .i64 0, .int .i64 0, .int .i64 0, .int .i64 0, .int .i64 0, .int .i64 0, .int .i64 0] ∧ Bk wr gT 44 (tc ⟨id, tn, pg, pc, un, k0, k1, k2, k3, st, rn⟩))) (_HT : Hid (oneT P (l.take k) = some ⟨id, tn, pg, pc, un, k0, k1, k2, k3, st, rn⟩)) (kd xi xa : Int) (hz : ith l k = (kd, xi, xa)) (hkn : k < n) (hk1 : k = 0) (h1 : ¬ (kd = 1)) (hn : okT (newT xi 0 xa)) (u5 u7 u8 u9 u10 u11 u12 u13 u14 u15 u16 u17 u18 u23 u24 u25 u26 u27 u28 u29 u30 u31 u32 u33 u34 u35 u36 u37 u38 u39 u40 u41 u42 u43 u44 u45 u46 u47 u48 u49 u50 u51 u52 u53 u54 u55 u56 u57 u58 u59 u60 u61 u62 u63 u64 u65 u66 u67 u68 u69 u70 u71 u72 u73 u74 u75 u76 u77 u78 u79 u80 u81 u82 u83 u84 u85 u86 u87 u88 u89 u90 u91 u92 u93 u94 u95 u96 u97 u98 u99 u100 u101 u102 u103 u104 u105 u106 u107 u108 u109 u110 u111 u112 u113 u114 u115 u116 u117 u118 u119 u120 u121 u122 u123 u124 u125 u126 u127 u128 u129 u130 u131 u132 u133 u134 u135 u136 u137 u138 u139 u140 u141 u142 u143 u144 u145 u146 u147 u148 u149 u150 u151 u152 u153 u154 u155 u156 u157 u158 u159 u160 u161 u162 u163 u164 u165 u166 u167 u168 u169 u170 u171 u172 u173 u174 u175 u176 u177 u178 u179 u180 u181 u182 u183 u184 u185 u186 : Value) :
    Code.wp Tryd.prog oneBody (Exit.then (fun (a1 : Act) (w1 : World) => (∃ u5 u7 u8 u9 u10 u11 u12 u13 u14 u15 u16 u17 u18 u22 u23 u24 u25 u26 u27 u28 u29 u30 u31 u32 u33 u34 u35 u36 u37 u38 u39 u40 u41 u42 u43 u44 u45 u46 u47 u48 u49 u50 u51 u52 u53 u54 u55 u56 u57 u58 u59 u60 u61 u62 u63 u64 u65 u66 u67 u68 u69 u70 u71 u72 u73 u74 u75 u76 u77 u78 u79 u80 u81 u82 u83 u84 u85 u86 u87 u88 u89 u90 u91 u92 u93 u94 u95 u96 u97 u98 u99 u100 u101 u102 u103 u104 u105 u106 u107 u108 u109 u110 u111 u112 u113 u114 u115 u116 u117 u118 u119 u120 u121 u122 u123 u124 u125 u126 u127 u128 u129 u130 u131 u132 u133 u134 u135 u136 u137 u138 u139 u140 u141 u142 u143 u144 u145 u146 u147 u148 u149 u150 u151 u152 u153 u154 u155 u156 u157 u158 u159 u160 u161 u162 u163 u164 u165 u166 u167 u168 u169 u170 u171 u172 u173 u174 u175 u176 u177 u178 u179 u180 u181 u182 u183 u184 u185 u186 : Value, (∃ (k : Nat) (T : Tk), k ≤ n ∧ u22 = .int .i64 k ∧ Hid (Below w.heap.size w w1 ∧ Bk w1 w.heap.size 44 #[.int .i64 0, .int .i64 0, .int .i64 0, .int .i64 0, .int .i64 0, .int .i64 0, .int .i64 0, .int .i64 0, .int .i64 0, .int .i64 0, .int .i64 0] ∧ Bk w1 gT 44 (tc T)) ∧ Hid (oneT P (l.take k) = some T)) ∧ a1 = ⟨#[.slice F np cp, .slice A n c, undef, undef, .pointer (some ⟨w.heap.size, 0, none⟩), u5, .pointer (some ⟨gT, 0, none⟩), u7, u8, u9, u10, u11, u12, u13, u14, u15, u16, u17, u18, .agg #[.int .i64 0, .int .i64 0, .int .i64 0, .int .i64 0, .int .i64 0, .int .i64 0, .int .i64 0, .int .i64 0, .int .i64 0, .int .i64 0, .int .i64 0], .slice A n c, .int .i64 (n : Int), u22, u23, u24, u25, u26, u27, u28, u29, u30, u31, u32, u33, u34, u35, u36, u37, u38, u39, u40, u41, u42, u43, u44, u45, u46, u47, u48, u49, u50, u51, u52, u53, u54, u55, u56, u57, u58, u59, u60, u61, u62, u63, u64, u65, u66, u67, u68, u69, u70, u71, u72, u73, u74, u75, u76, u77, u78, u79, u80, u81, u82, u83, u84, u85, u86, u87, u88, u89, u90, u91, u92, u93, u94, u95, u96, u97, u98, u99, u100, u101, u102, u103, u104, u105, u106, u107, u108, u109, u110, u111, u112, u113, u114, u115, u116, u117, u118, u119, u120, u121, u122, u123, u124, u125, u126, u127, u128, u129, u130, u131, u132, u133, u134, u135, u136, u137, u138, u139, u140, u141, u142, u143, u144, u145, u146, u147, u148, u149, u150, u151, u152, u153, u154, u155, u156, u157, u158, u159, u160, u161, u162, u163, u164, u165, u166, u167, u168, u169, u170, u171, u172, u173, u174, u175, u176, u177, u178, u179, u180, u181, u182, u183, u184, u185, u186, undef], []⟩) ∧ n - (intOf (a1.tmps.getD 22 undef)).toNat < n - (intOf ((⟨#[.slice F np cp, .slice A n c, undef, undef, .pointer (some ⟨w.heap.size, 0, none⟩), u5, .pointer (some ⟨gT, 0, none⟩), u7, u8, u9, u10, u11, u12, u13, u14, u15, u16, u17, u18, .agg #[.int .i64 0, .int .i64 0, .int .i64 0, .int .i64 0, .int .i64 0, .int .i64 0, .int .i64 0, .int .i64 0, .int .i64 0, .int .i64 0, .int .i64 0], .slice A n c, .int .i64 (n : Int), (.int .i64 (k : Int)), u23, u24, u25, u26, u27, u28, u29, u30, u31, u32, u33, u34, u35, u36, u37, u38, u39, u40, u41, u42, u43, u44, u45, u46, u47, u48, u49, u50, u51, u52, u53, u54, u55, u56, u57, u58, u59, u60, u61, u62, u63, u64, u65, u66, u67, u68, u69, u70, u71, u72, u73, u74, u75, u76, u77, u78, u79, u80, u81, u82, u83, u84, u85, u86, u87, u88, u89, u90, u91, u92, u93, u94, u95, u96, u97, u98, u99, u100, u101, u102, u103, u104, u105, u106, u107, u108, u109, u110, u111, u112, u113, u114, u115, u116, u117, u118, u119, u120, u121, u122, u123, u124, u125, u126, u127, u128, u129, u130, u131, u132, u133, u134, u135, u136, u137, u138, u139, u140, u141, u142, u143, u144, u145, u146, u147, u148, u149, u150, u151, u152, u153, u154, u155, u156, u157, u158, u159, u160, u161, u162, u163, u164, u165, u166, u167, u168, u169, u170, u171, u172, u173, u174, u175, u176, u177, u178, u179, u180, u181, u182, u183, u184, u185, u186, undef], []⟩ : Act).tmps.getD 22 undef)).toNat) (Exit.inBlock 0 (Exit.then K (bodyPost Tryd.prog Tryd.f27 (OneP P l w))))) ⟨#[.slice F np cp, .slice A n c, undef, undef, .pointer (some ⟨w.heap.size, 0, none⟩), u5, .pointer (some ⟨gT, 0, none⟩), u7, u8, u9, u10, u11, u12, u13, u14, u15, u16, u17, u18, .agg #[.int .i64 0, .int .i64 0, .int .i64 0, .int .i64 0, .int .i64 0, .int .i64 0, .int .i64 0, .int .i64 0, .int .i64 0, .int .i64 0, .int .i64 0], .slice A n c, .int .i64 (n : Int), (.int .i64 (k : Int)), u23, u24, u25, u26, u27, u28, u29, u30, u31, u32, u33, u34, u35, u36, u37, u38, u39, u40, u41, u42, u43, u44, u45, u46, u47, u48, u49, u50, u51, u52, u53, u54, u55, u56, u57, u58, u59, u60, u61, u62, u63, u64, u65, u66, u67, u68, u69, u70, u71, u72, u73, u74, u75, u76, u77, u78, u79, u80, u81, u82, u83, u84, u85, u86, u87, u88, u89, u90, u91, u92, u93, u94, u95, u96, u97, u98, u99, u100, u101, u102, u103, u104, u105, u106, u107, u108, u109, u110, u111, u112, u113, u114, u115, u116, u117, u118, u119, u120, u121, u122, u123, u124, u125, u126, u127, u128, u129, u130, u131, u132, u133, u134, u135, u136, u137, u138, u139, u140, u141, u142, u143, u144, u145, u146, u147, u148, u149, u150, u151, u152, u153, u154, u155, u156, u157, u158, u159, u160, u161, u162, u163, u164, u165, u166, u167, u168, u169, u170, u171, u172, u173, u174, u175, u176, u177, u178, u179, u180, u181, u182, u183, u184, u185, u186, undef], []⟩ wr := by
  conv => arg 2; whnf
  have BB := Lib.hid OW.out.1
  have KR := Lib.hid OW.out.2.1
  have KT : Hid (Bk wr gT 44 #[.int .i64 id, .int .i64 tn, .int .i64 pg, .int .i64 pc, .int .i64 un, .int .i64 k0, .int .i64 k1, .int .i64 k2, .int .i64 k3, .int .i64 st, .int .i64 rn]) := Lib.hid OW.out.2.2
  clear OW
  obtain ⟨b, o, rfl, hb, c0, c1, c2⟩ := (HL.out.below BB.out).at_ hkn
  have hkl : k < l.length := by rw [LX.out]; exact hkn
  rw [show jO l k = kd by unfold jO; rw [hz]] at c0
  rw [show jA l k = xi by unfold jA; rw [hz]] at c1
  rw [show jB l k = xa by unfold jB; rw [hz]] at c2
  have HZ := Lib.hid hz
  subst hk1
  simp only [Nat.zero_mul, Nat.add_zero] at c0 c1 c2
  have HNW : Hid (newR xi 0 xa = (0, newT xi 0 xa)) := Lib.hid (by unfold newR; rw [if_pos hn])
  have t0 : (kd != 1) = true := by simpa using h1
  clear hz
  have HS : Hid (oneT P (l.take (0 + 1)) = none) := Lib.hid (by rw [show (0 + 1 : Nat) = 1 from rfl, oneT_first (by omega), HZ.out]; unfold bornT; dsimp only; rw [if_neg (fun q => h1 q.1)])
  clear h1 hn
  have kn := Bk.new wr 41 #[.int .i64 kd, .int .i64 xi, .int .i64 xa]
  have ba := (Below.refl wr.heap.size wr).alloc (Nat.le_refl _) (.cells #[.int .i64 kd, .int .i64 xi, .int .i64 xa] 41)
  have hgb := BB.out.size
  have nR_E := Nat.ne_of_lt KR.out.lt
  have nT_E := Nat.ne_of_lt KT.out.lt
  replace BB := Lib.hid (below3 BB.out ba)
  replace KR := Lib.hid (KR.out.below ba KR.out.lt)
  replace KT := Lib.hid (KT.out.below ba KT.out.lt)
  obtain ⟨gE, hg⟩ : ∃ g, wr.heap.size = g := ⟨_, rfl⟩
  obtain ⟨V42, hW⟩ : ∃ W, wr.alloc (.cells #[.int .i64 kd, .int .i64 xi, .int .i64 xa] 41) = W := ⟨_, rfl⟩
  have KE := Lib.hid kn
  rw [hW] at BB KE KR KT
  rw [hg] at KE hgb nR_E nT_E
  have HGE := Lib.hid hg
  have HWE := Lib.hid hW
  have HBE := Lib.hid hgb
  have NR_E := Lib.hid nR_E
  have NT_E := Lib.hid nT_E
  clear hW hg kn ba hgb nR_E nT_E
  go_upto_region 5 with fail
  rw [HWE.out]
  try rw [HGE.out]
  clear HWE HGE
  skip
  obtain ⟨qE_0, qE_1, qE_2⟩ := KE.out.c3
  have lE := KE.out.lt
  go_wp2_with fail
  refine (rnew_any xi 0 xa _).mono ?_
  rw [HNW.out]
  rintro e U43 ⟨rfl, bU43⟩
  clear qE_0 qE_1 qE_2 lE
  replace BB := Lib.hid (below3 BB.out bU43)
  replace KR := Lib.hid (KR.out.below bU43 KR.out.lt)
  replace KT := Lib.hid (KT.out.below bU43 KT.out.lt)
  replace KE := Lib.hid (KE.out.below bU43 KE.out.lt)
  clear bU43
  dsimp only [tc, newT, zT]
  have kn := Bk.new U43 44 #[.int .i64 xi, .int .i64 0, .int .i64 xa, .int .i64 0, .int .i64 0, .int .i64 ((-1)), .int .i64 ((-1)), .int .i64 ((-1)), .int .i64 ((-1)), .int .i64 1, .int .i64 0]
  have ba := (Below.refl U43.heap.size U43).alloc (Nat.le_refl _) (.cells #[.int .i64 xi, .int .i64 0, .int .i64 xa, .int .i64 0, .int .i64 0, .int .i64 ((-1)), .int .i64 ((-1)), .int .i64 ((-1)), .int .i64 ((-1)), .int .i64 1, .int .i64 0] 44)
  have hgb := BB.out.size
  have nR_N := Nat.ne_of_lt KR.out.lt
  have nT_N := Nat.ne_of_lt KT.out.lt
  have nE_N := Nat.ne_of_lt KE.out.lt
  replace BB := Lib.hid (below3 BB.out ba)
  replace KR := Lib.hid (KR.out.below ba KR.out.lt)
  replace KT := Lib.hid (KT.out.below ba KT.out.lt)
  replace KE := Lib.hid (KE.out.below ba KE.out.lt)
  obtain ⟨gN, hg⟩ : ∃ g, U43.heap.size = g := ⟨_, rfl⟩
  obtain ⟨V45, hW⟩ : ∃ W, U43.alloc (.cells #[.int .i64 xi, .int .i64 0, .int .i64 xa, .int .i64 0, .int .i64 0, .int .i64 ((-1)), .int .i64 ((-1)), .int .i64 ((-1)), .int .i64 ((-1)), .int .i64 1, .int .i64 0] 44) = W := ⟨_, rfl⟩
  have KN := Lib.hid kn
  rw [hW] at BB KN KR KT KE
  rw [hg] at KN hgb nR_N nT_N nE_N
  have HGN := Lib.hid hg
  have HWN := Lib.hid hW
  have HBN := Lib.hid hgb
  have NR_N := Lib.hid nR_N
  have NT_N := Lib.hid nT_N
  have NE_N := Lib.hid nE_N
  clear hW hg kn ba hgb nR_N nT_N nE_N
  go_upto_region 7 with fail
  rw [HWN.out]
  try rw [HGN.out]
  clear HWN HGN
  obtain ⟨qE_0, qE_1, qE_2⟩ := KE.out.c3
  have lE := KE.out.lt
  have HNO : Hid (oneT P l = none) := Lib.hid (oneT_none HS.out)
  go_upto_region 8 with fail
  clear qE_0 qE_1 qE_2 lE
  obtain ⟨qT_0, qT_1, qT_2, qT_3, qT_4, qT_5, qT_6, qT_7, qT_8, qT_9, qT_10⟩ := KT.out.c11
  have lT := KT.out.lt
  obtain ⟨qR_0, qR_1, qR_2, qR_3, qR_4, qR_5, qR_6, qR_7, qR_8, qR_9, qR_10⟩ := KR.out.c11
  have lR := KR.out.lt
  obtain ⟨fR_0, fR_1, fR_2, fR_3, fR_4, fR_5, fR_6, fR_7, fR_8, fR_9, fR_10⟩ := KR.out.f11
  have B_R := Lib.hid (below_set11 (g := w.heap.size) BB.out HBR.out (.int .i64 id) (.int .i64 tn) (.int .i64 pg) (.int .i64 pc) (.int .i64 un) (.int .i64 k0) (.int .i64 k1) (.int .i64 k2) (.int .i64 k3) (.int .i64 st) (.int .i64 rn))
  have S_R := Lib.hid (bk_set11 KR.out (.int .i64 id) (.int .i64 tn) (.int .i64 pg) (.int .i64 pc) (.int .i64 un) (.int .i64 k0) (.int .i64 k1) (.int .i64 k2) (.int .i64 k3) (.int .i64 st) (.int .i64 rn))
  unfold set11 at B_R
  go_wp2
  obtain ⟨rR_0, rR_1, rR_2, rR_3, rR_4, rR_5, rR_6, rR_7, rR_8, rR_9, rR_10⟩ := Bk.c11 (S_R.out)
  unfold set11 at rR_0 rR_1 rR_2 rR_3 rR_4 rR_5 rR_6 rR_7 rR_8 rR_9 rR_10
  exact bodyPost_ret (v := .tuple #[.agg #[.int .i64 id, .int .i64 tn, .int .i64 pg, .int .i64 pc, .int .i64 un, .int .i64 k0, .int .i64 k1, .int .i64 k2, .int .i64 k3, .int .i64 st, .int .i64 rn], .bool false]) (by simp [results, Tryd.results27, go_sem, rR_0, rR_1, rR_2, rR_3, rR_4, rR_5, rR_6, rR_7, rR_8, rR_9, rR_10]) rfl ⟨⟨id, tn, pg, pc, un, k0, k1, k2, k3, st, rn⟩, by rw [HNO.out]; rfl, (fun u hu => by rw [HNO.out] at hu; cases hu), B_R.out⟩

end Go.Proofs.YtfhlligcbpnkkaaDoor

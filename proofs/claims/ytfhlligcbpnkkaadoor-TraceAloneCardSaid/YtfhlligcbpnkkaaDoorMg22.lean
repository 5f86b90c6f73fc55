import Derived.Test.YtfhlligcbpnkkaaDoorMg17

/-
  Layer 18, the document: a task's own life: ways of its round.
-/
namespace Go.Proofs.YtfhlligcbpnkkaaDoor
open Go.RowKit

set_option maxRecDepth 100000 in
set_option maxHeartbeats 2000000 in
theorem one_w16 (F A : Option Addr) (np cp n c : Nat) (P : List (List I3)) (l : List I3) (w wr : World) (gT : Nat) (K : Act → World → Prop) (_HPP : Hid (Prgs w F np P)) (_PL : Hid (P.length = np)) (HL : Hid (Prog w A n c l)) (LX : Hid (l.length = n)) (HOK : Hid (okL P)) (_hnc : n ≤ c ∧ c ≤ 9223372036854775807) (_hpc : np ≤ 9223372036854775807) (HBR : Hid (w.heap.size ≤ w.heap.size)) (_HBT : Hid (w.heap.size ≤ gT)) (_NR_T : Hid (w.heap.size ≠ gT)) (k : Nat) (id tn pg pc un k0 k1 k2 k3 st rn : Int) (OW : Hid (Below w.heap.size w wr ∧ Bk wr w.heap.size 44 #[.int .i64 0, .int .i64 0, .int .i64 0, .int .i64 0, .int .i64 0, .int .i64 0, .int .i64 0, .int .i64 0, .int .i64 0, .int .i64 0, .int .i64 0] ∧ Bk wr gT 44 (tc ⟨id, tn, pg, pc, un, k0, k1, k2, k3, st, rn⟩))) (HT : Hid (oneT P (l.take k) = some ⟨id, tn, pg, pc, un, k0, k1, k2, k3, st, rn⟩)) (kd xi xa : Int) (hz : ith l k = (kd, xi, xa)) (lk li la : Int) (hy : ith l (k - 1) = (lk, li, la)) (hkn : k < n) (_hk1 : ¬ (k = 0)) (kq2 : ¬ (kd = 2)) (kq3 : kd = 3) (s1 : st = 1) (q2 : ¬ (lk = 2)) (u5 u7 u8 u9 u10 u11 u12 u13 u14 u15 u16 u17 u18 u23 u24 u25 u26 u27 u28 u29 u30 u31 u32 u33 u34 u35 u36 u37 u38 u39 u40 u41 u42 u43 u44 u45 u46 u47 u48 u49 u50 u51 u52 u53 u54 u55 u56 u57 u58 u59 u60 u61 u62 u63 u64 u65 u66 u67 u68 u69 u70 u71 u72 u73 u74 u75 u76 u77 u78 u79 u80 u81 u82 u83 u84 u85 u86 u87 u88 u89 u90 u91 u92 u93 u94 u95 u96 u97 u98 u99 u100 u101 u102 u103 u104 u105 u106 u107 u108 u109 u110 u111 u112 u113 u114 u115 u116 u117 u118 u119 u120 u121 u122 u123 u124 u125 u126 u127 u128 u129 u130 u131 u132 u133 u134 u135 u136 u137 u138 u139 u140 u141 u142 u143 u144 u145 u146 u147 u148 u149 u150 u151 u152 u153 u154 u155 u156 u157 u158 u159 u160 u161 u162 u163 u164 u165 u166 u167 u168 u169 u170 u171 u172 u173 u174 u175 u176 u177 u178 u179 u180 u181 u182 u183 u184 u185 u186 : Value) :
    Code.wp Tryd.prog oneBody (Exit.then (fun (a1 : Act) (w1 : World) => (∃ u5 u7 u8 u9 u10 u11 u12 u13 u14 u15 u16 u17 u18 u22 u23 u24 u25 u26 u27 u28 u29 u30 u31 u32 u33 u34 u35 u36 u37 u38 u39 u40 u41 u42 u43 u44 u45 u46 u47 u48 u49 u50 u51 u52 u53 u54 u55 u56 u57 u58 u59 u60 u61 u62 u63 u64 u65 u66 u67 u68 u69 u70 u71 u72 u73 u74 u75 u76 u77 u78 u79 u80 u81 u82 u83 u84 u85 u86 u87 u88 u89 u90 u91 u92 u93 u94 u95 u96 u97 u98 u99 u100 u101 u102 u103 u104 u105 u106 u107 u108 u109 u110 u111 u112 u113 u114 u115 u116 u117 u118 u119 u120 u121 u122 u123 u124 u125 u126 u127 u128 u129 u130 u131 u132 u133 u134 u135 u136 u137 u138 u139 u140 u141 u142 u143 u144 u145 u146 u147 u148 u149 u150 u151 u152 u153 u154 u155 u156 u157 u158 u159 u160 u161 u162 u163 u164 u165 u166 u167 u168 u169 u170 u171 u172 u173 u174 u175 u176 u177 u178 u179 u180 u181 u182 u183 u184 u185 u186 : Value, (∃ (k : Nat) (T : Tk), k ≤ n ∧ u22 = .int .i64 k ∧ Hid (Below w.heap.size w w1 ∧ Bk w1 w.heap.size 44 #[.int .i64 0, .int .i64 0, .int .i64 0, .int .i64 0, .int .i64 0, .int .i64 0, .int .i64 0, .int .i64 0, .int .i64 0, .int .i64 0, .int .i64 0] ∧ Bk w1 gT 44 (tc T)) ∧ Hid (oneT P (l.take k) = some T)) ∧ a1 = ⟨#[.slice F np cp, .slice A n c, undef, undef, .pointer (some ⟨w.heap.size, 0, none⟩), u5, .pointer (some ⟨gT, 0, none⟩), u7, u8, u9, u10, u11, u12, u13, u14, u15, u16, u17, u18, .agg #[.int .i64 0, .int .i64 0, .int .i64 0, .int .i64 0, .int .i64 0, .int .i64 0, .int .i64 0, .int .i64 0, .int .i64 0, .int .i64 0, .int .i64 0], .slice A n c, .int .i64 (n : Int), u22, u23, u24, u25, u26, u27, u28, u29, u30, u31, u32, u33, u34, u35, u36, u37, u38, u39, u40, u41, u42, u43, u44, u45, u46, u47, u48, u49, u50, u51, u52, u53, u54, u55, u56, u57, u58, u59, u60, u61, u62, u63, u64, u65, u66, u67, u68, u69, u70, u71, u72, u73, u74, u75, u76, u77, u78, u79, u80, u81, u82, u83, u84, u85, u86, u87, u88, u89, u90, u91, u92, u93, u94, u95, u96, u97, u98, u99, u100, u101, u102, u103, u104, u105, u106, u107, u108, u109, u110, u111, u112, u113, u114, u115, u116, u117, u118, u119, u120, u121, u122, u123, u124, u125, u126, u127, u128, u129, u130, u131, u132, u133, u134, u135, u136, u137, u138, u139, u140, u141, u142, u143, u144, u145, u146, u147, u148, u149, u150, u151, u152, u153, u154, u155, u156, u157, u158, u159, u160, u161, u162, u163, u164, u165, u166, u167, u168, u169, u170, u171, u172, u173, u174, u175, u176, u177, u178, u179, u180, u181, u182, u183, u184, u185, u186, undef], []⟩) ∧ n - (intOf (a1.tmps.getD 22 undef)).toNat < n - (intOf ((⟨#[.slice F np cp, .slice A n c, undef, undef, .pointer (some ⟨w.heap.size, 0, none⟩), u5, .pointer (some ⟨gT, 0, none⟩), u7, u8, u9, u10, u11, u12, u13, u14, u15, u16, u17, u18, .agg #[.int .i64 0, .int .i64 0, .int .i64 0, .int .i64 0, .int .i64 0, .int .i64 0, .int .i64 0, .int .i64 0, .int .i64 0, .int .i64 0, .int .i64 0], .slice A n c, .int .i64 (n : Int), (.int .i64 (k : Int)), u23, u24, u25, u26, u27, u28, u29, u30, u31, u32, u33, u34, u35, u36, u37, u38, u39, u40, u41, u42, u43, u44, u45, u46, u47, u48, u49, u50, u51, u52, u53, u54, u55, u56, u57, u58, u59, u60, u61, u62, u63, u64, u65, u66, u67, u68, u69, u70, u71, u72, u73, u74, u75, u76, u77, u78, u79, u80, u81, u82, u83, u84, u85, u86, u87, u88, u89, u90, u91, u92, u93, u94, u95, u96, u97, u98, u99, u100, u101, u102, u103, u104, u105, u106, u107, u108, u109, u110, u111, u112, u113, u114, u115, u116, u117, u118, u119, u120, u121, u122, u123, u124, u125, u126, u127, u128, u129, u130, u131, u132, u133, u134, u135, u136, u137, u138, u139, u140, u141, u142, u143, u144, u145, u146, u147, u148, u149, u150, u151, u152, u153, u154, u155, u156, u157, u158, u159, u160, u161, u162, u163, u164, u165, u166, u167, u168, u169, u170, u171, u172, u173, u174, u175, u176, u177, u178, u179, u180, u181, u182, u183, u184, u185, u186, undef], []⟩ : Act).tmps.getD 22 undef)).toNat) (Exit.inBlock 0 (Exit.then K (bodyPost Tryd.prog Tryd.f27 (OneP P l w))))) ⟨#[.slice F np cp, .slice A n c, undef, undef, .pointer (some ⟨w.heap.size, 0, none⟩), u5, .pointer (some ⟨gT, 0, none⟩), u7, u8, u9, u10, u11, u12, u13, u14, u15, u16, u17, u18, .agg #[.int .i64 0, .int .i64 0, .int .i64 0, .int .i64 0, .int .i64 0, .int .i64 0, .int .i64 0, .int .i64 0, .int .i64 0, .int .i64 0, .int .i64 0], .slice A n c, .int .i64 (n : Int), (.int .i64 (k : Int)), u23, u24, u25, u26, u27, u28, u29, u30, u31, u32, u33, u34, u35, u36, u37, u38, u39, u40, u41, u42, u43, u44, u45, u46, u47, u48, u49, u50, u51, u52, u53, u54, u55, u56, u57, u58, u59, u60, u61, u62, u63, u64, u65, u66, u67, u68, u69, u70, u71, u72, u73, u74, u75, u76, u77, u78, u79, u80, u81, u82, u83, u84, u85, u86, u87, u88, u89, u90, u91, u92, u93, u94, u95, u96, u97, u98, u99, u100, u101, u102, u103, u104, u105, u106, u107, u108, u109, u110, u111, u112, u113, u114, u115, u116, u117, u118, u119, u120, u121, u122, u123, u124, u125, u126, u127, u128, u129, u130, u131, u132, u133, u134, u135, u136, u137, u138, u139, u140, u141, u142, u143, u144, u145, u146, u147, u148, u149, u150, u151, u152, u153, u154, u155, u156, u157, u158, u159, u160, u161, u162, u163, u164, u165, u166, u167, u168, u169, u170, u171, u172, u173, u174, u175, u176, u177, u178, u179, u180, u181, u182, u183, u184, u185, u186, undef], []⟩ wr := by
  conv => arg 2; whnf
  have BB := Lib.hid OW.out.1
  have KR := Lib.hid OW.out.2.1
  have KT : Hid (Bk wr gT 44 #[.int .i64 id, .int .i64 tn, .int .i64 pg, .int .i64 pc, .int .i64 un, .int .i64 k0, .int .i64 k1, .int .i64 k2, .int .i64 k3, .int .i64 st, .int .i64 rn]) := Lib.hid OW.out.2.2
  clear OW
  obtain ⟨b, o, rfl, hb, c0, c1, c2⟩ := (HL.out.below BB.out).at_ hkn
  have hkl : k < l.length := by rw [LX.out]; exact hkn
  rw [show jO l k = kd by unfold jO; rw [hz]] at c0
  rw [show jA l k = xi by unfold jA; rw [hz]] at c1
  rw [show jB l k = xa by unfold jB; rw [hz]] at c2
  have HZ := Lib.hid hz
  have hk0 : 0 < k := by omega
  obtain ⟨U, hU, LF⟩ := life_upto HOK.out (m := l.take k) (by rw [HT.out]; rfl) k hk0 (by rw [List.length_take]; omega)
  rw [List.take_take, Nat.min_self, HT.out] at hU
  injection hU with hU
  subst hU
  have hpg := LF.who.2.2
  dsimp only at hpg
  clear LF
  have HY := Lib.hid hy
  clear hy hz
  have HNX := Lib.hid (oneT_next (P := P) hk0 hkl HT.out)
  rw [HY.out, HZ.out] at HNX
  have t9 : ((k : Int) == 0) = false := by simp; omega
  have ek : IntKind.i64.wrap ((k : Int) - 1) = ((k - 1 : Nat) : Int) := by rw [IntKind.wrap_i64]; omega
  have ek2 : k - 1 < n := by omega
  have HS : Hid (oneT P (l.take (k + 1)) = none) := Lib.hid (by rw [HNX.out]; unfold stepT; dsimp only; rw [if_neg kq2, if_pos kq3, if_neg (fun q => q2 q.2.1)])
  have tl : (lk == 2) = false ∧ (lk != 2) = true := by constructor <;> (simp; omega)
  obtain ⟨tl, tln⟩ := tl
  have ts : (st == 1) = true ∧ (st != 1) = false := by constructor <;> (simp; omega)
  obtain ⟨ts, tsn⟩ := ts
  have tk2 : (kd == 2) = false ∧ (kd != 2) = true := by constructor <;> (simp; omega)
  obtain ⟨tk2, tk2n⟩ := tk2
  have tk3 : (kd == 3) = true ∧ (kd != 3) = false := by constructor <;> (simp; omega)
  obtain ⟨tk3, tk3n⟩ := tk3
  clear kq2 kq3
  clear s1 q2
  have kn := Bk.new wr 41 #[.int .i64 kd, .int .i64 xi, .int .i64 xa]
  have ba := (Below.refl wr.heap.size wr).alloc (Nat.le_refl _) (.cells #[.int .i64 kd, .int .i64 xi, .int .i64 xa] 41)
  have hgb := BB.out.size
  have nR_E := Nat.ne_of_lt KR.out.lt
  have nT_E := Nat.ne_of_lt KT.out.lt
  replace BB := Lib.hid (below3 BB.out ba)
  replace KR := Lib.hid (KR.out.below ba KR.out.lt)
  replace KT := Lib.hid (KT.out.below ba KT.out.lt)
  obtain ⟨gE, hg⟩ : ∃ g, wr.heap.size = g := ⟨_, rfl⟩
  obtain ⟨V42, hW⟩ : ∃ W, wr.alloc (.cells #[.int .i64 kd, .int .i64 xi, .int .i64 xa] 41) = W := ⟨_, rfl⟩
  have KE := Lib.hid kn
  rw [hW] at BB KE KR KT
  rw [hg] at KE hgb nR_E nT_E
  have HGE := Lib.hid hg
  have HWE := Lib.hid hW
  have HBE := Lib.hid hgb
  have NR_E := Lib.hid nR_E
  have NT_E := Lib.hid nT_E
  clear hW hg kn ba hgb nR_E nT_E
  go_upto_region 5 with fail
  rw [HWE.out]
  try rw [HGE.out]
  clear HWE HGE
  skip
  clear c0 c1 c2
  obtain ⟨b2, o2, e2, hb2, d0, d1, d2⟩ := (HL.out.below BB.out).at_ (j := k - 1) (by omega)
  injection e2 with e2
  injection e2 with e3 e4 _
  subst e3 e4
  rw [show jO l (k - 1) = lk by unfold jO; rw [HY.out]] at d0
  rw [show jA l (k - 1) = li by unfold jA; rw [HY.out]] at d1
  rw [show jB l (k - 1) = la by unfold jB; rw [HY.out]] at d2
  go_upto_region 10 with fail
  have kn := Bk.new V42 41 #[.int .i64 lk, .int .i64 li, .int .i64 la]
  have ba := (Below.refl V42.heap.size V42).alloc (Nat.le_refl _) (.cells #[.int .i64 lk, .int .i64 li, .int .i64 la] 41)
  have hgb := BB.out.size
  have nR_X := Nat.ne_of_lt KR.out.lt
  have nT_X := Nat.ne_of_lt KT.out.lt
  have nE_X := Nat.ne_of_lt KE.out.lt
  replace BB := Lib.hid (below3 BB.out ba)
  replace KR := Lib.hid (KR.out.below ba KR.out.lt)
  replace KT := Lib.hid (KT.out.below ba KT.out.lt)
  replace KE := Lib.hid (KE.out.below ba KE.out.lt)
  obtain ⟨gX, hg⟩ : ∃ g, V42.heap.size = g := ⟨_, rfl⟩
  obtain ⟨V43, hW⟩ : ∃ W, V42.alloc (.cells #[.int .i64 lk, .int .i64 li, .int .i64 la] 41) = W := ⟨_, rfl⟩
  have KX := Lib.hid kn
  rw [hW] at BB KX KR KT KE
  rw [hg] at KX hgb nR_X nT_X nE_X
  have HGX := Lib.hid hg
  have HWX := Lib.hid hW
  have HBX := Lib.hid hgb
  have NR_X := Lib.hid nR_X
  have NT_X := Lib.hid nT_X
  have NE_X := Lib.hid nE_X
  clear hW hg kn ba hgb nR_X nT_X nE_X
  go_upto_region 11 with fail
  rw [HWX.out]
  try rw [HGX.out]
  clear HWX HGX
  clear d0 d1 d2 hb2
  have HH := Lib.hid fun (U : World) => (held_tr la U).mono fun _ _ (p : RetW _ U _ _) => And.intro p.1 p.2.symm
  have HNO : Hid (oneT P l = none) := Lib.hid (oneT_none HS.out)
  obtain ⟨qT_0, qT_1, qT_2, qT_3, qT_4, qT_5, qT_6, qT_7, qT_8, qT_9, qT_10⟩ := KT.out.c11
  have lT := KT.out.lt
  obtain ⟨qE_0, qE_1, qE_2⟩ := KE.out.c3
  have lE := KE.out.lt
  obtain ⟨qX_0, qX_1, qX_2⟩ := KX.out.c3
  have lX := KX.out.lt
  go_wp2
  go_quiet ((go_at_call 22; exact Calls.quiet_of_same (HH.out _)))
  clear qT_0 qT_1 qT_2 qT_3 qT_4 qT_5 qT_6 qT_7 qT_8 qT_9 qT_10 lT qE_0 qE_1 qE_2 lE qX_0 qX_1 qX_2 lX
  have bd := below_drewN (Below.refl V43.heap.size V43) nq
  replace BB := Lib.hid (below3 BB.out bd)
  replace KR := Lib.hid (KR.out.below bd KR.out.lt)
  replace KT := Lib.hid (KT.out.below bd KT.out.lt)
  replace KE := Lib.hid (KE.out.below bd KE.out.lt)
  replace KX := Lib.hid (KX.out.below bd KX.out.lt)
  obtain ⟨D, hD⟩ : ∃ D, V43.drewN nq = D := ⟨_, rfl⟩
  rw [hD] at BB KR KT KE KX ⊢
  clear hD bd
  go_upto_region 25 with fail
  obtain ⟨qT_0, qT_1, qT_2, qT_3, qT_4, qT_5, qT_6, qT_7, qT_8, qT_9, qT_10⟩ := KT.out.c11
  have lT := KT.out.lt
  obtain ⟨qR_0, qR_1, qR_2, qR_3, qR_4, qR_5, qR_6, qR_7, qR_8, qR_9, qR_10⟩ := KR.out.c11
  have lR := KR.out.lt
  obtain ⟨fR_0, fR_1, fR_2, fR_3, fR_4, fR_5, fR_6, fR_7, fR_8, fR_9, fR_10⟩ := KR.out.f11
  have B_R := Lib.hid (below_set11 (g := w.heap.size) BB.out HBR.out (.int .i64 id) (.int .i64 tn) (.int .i64 pg) (.int .i64 pc) (.int .i64 un) (.int .i64 k0) (.int .i64 k1) (.int .i64 k2) (.int .i64 k3) (.int .i64 st) (.int .i64 rn))
  have S_R := Lib.hid (bk_set11 KR.out (.int .i64 id) (.int .i64 tn) (.int .i64 pg) (.int .i64 pc) (.int .i64 un) (.int .i64 k0) (.int .i64 k1) (.int .i64 k2) (.int .i64 k3) (.int .i64 st) (.int .i64 rn))
  unfold set11 at B_R
  go_wp2
  obtain ⟨rR_0, rR_1, rR_2, rR_3, rR_4, rR_5, rR_6, rR_7, rR_8, rR_9, rR_10⟩ := Bk.c11 (S_R.out)
  unfold set11 at rR_0 rR_1 rR_2 rR_3 rR_4 rR_5 rR_6 rR_7 rR_8 rR_9 rR_10
  exact bodyPost_ret (v := .tuple #[.agg #[.int .i64 id, .int .i64 tn, .int .i64 pg, .int .i64 pc, .int .i64 un, .int .i64 k0, .int .i64 k1, .int .i64 k2, .int .i64 k3, .int .i64 st, .int .i64 rn], .bool false]) (by simp [results, Tryd.results27, go_sem, rR_0, rR_1, rR_2, rR_3, rR_4, rR_5, rR_6, rR_7, rR_8, rR_9, rR_10]) rfl ⟨⟨id, tn, pg, pc, un, k0, k1, k2, k3, st, rn⟩, by rw [HNO.out]; rfl, (fun u hu => by rw [HNO.out] at hu; cases hu), B_R.out⟩

set_option maxRecDepth 100000 in
set_option maxHeartbeats 2000000 in
theorem one_w17 (F A : Option Addr) (np cp n c : Nat) (P : List (List I3)) (l : List I3) (w wr : World) (gT : Nat) (K : Act → World → Prop) (_HPP : Hid (Prgs w F np P)) (_PL : Hid (P.length = np)) (HL : Hid (Prog w A n c l)) (LX : Hid (l.length = n)) (HOK : Hid (okL P)) (_hnc : n ≤ c ∧ c ≤ 9223372036854775807) (_hpc : np ≤ 9223372036854775807) (HBR : Hid (w.heap.size ≤ w.heap.size)) (_HBT : Hid (w.heap.size ≤ gT)) (_NR_T : Hid (w.heap.size ≠ gT)) (k : Nat) (id tn pg pc un k0 k1 k2 k3 st rn : Int) (OW : Hid (Below w.heap.size w wr ∧ Bk wr w.heap.size 44 #[.int .i64 0, .int .i64 0, .int .i64 0, .int .i64 0, .int .i64 0, .int .i64 0, .int .i64 0, .int .i64 0, .int .i64 0, .int .i64 0, .int .i64 0] ∧ Bk wr gT 44 (tc ⟨id, tn, pg, pc, un, k0, k1, k2, k3, st, rn⟩))) (HT : Hid (oneT P (l.take k) = some ⟨id, tn, pg, pc, un, k0, k1, k2, k3, st, rn⟩)) (kd xi xa : Int) (hz : ith l k = (kd, xi, xa)) (lk li la : Int) (hy : ith l (k - 1) = (lk, li, la)) (hkn : k < n) (_hk1 : ¬ (k = 0)) (kq2 : ¬ (kd = 2)) (kq3 : kd = 3) (s1 : ¬ (st = 1)) (u5 u7 u8 u9 u10 u11 u12 u13 u14 u15 u16 u17 u18 u23 u24 u25 u26 u27 u28 u29 u30 u31 u32 u33 u34 u35 u36 u37 u38 u39 u40 u41 u42 u43 u44 u45 u46 u47 u48 u49 u50 u51 u52 u53 u54 u55 u56 u57 u58 u59 u60 u61 u62 u63 u64 u65 u66 u67 u68 u69 u70 u71 u72 u73 u74 u75 u76 u77 u78 u79 u80 u81 u82 u83 u84 u85 u86 u87 u88 u89 u90 u91 u92 u93 u94 u95 u96 u97 u98 u99 u100 u101 u102 u103 u104 u105 u106 u107 u108 u109 u110 u111 u112 u113 u114 u115 u116 u117 u118 u119 u120 u121 u122 u123 u124 u125 u126 u127 u128 u129 u130 u131 u132 u133 u134 u135 u136 u137 u138 u139 u140 u141 u142 u143 u144 u145 u146 u147 u148 u149 u150 u151 u152 u153 u154 u155 u156 u157 u158 u159 u160 u161 u162 u163 u164 u165 u166 u167 u168 u169 u170 u171 u172 u173 u174 u175 u176 u177 u178 u179 u180 u181 u182 u183 u184 u185 u186 : Value) :
    Code.wp Tryd.prog oneBody (Exit.then (fun (a1 : Act) (w1 : World) => (∃ u5 u7 u8 u9 u10 u11 u12 u13 u14 u15 u16 u17 u18 u22 u23 u24 u25 u26 u27 u28 u29 u30 u31 u32 u33 u34 u35 u36 u37 u38 u39 u40 u41 u42 u43 u44 u45 u46 u47 u48 u49 u50 u51 u52 u53 u54 u55 u56 u57 u58 u59 u60 u61 u62 u63 u64 u65 u66 u67 u68 u69 u70 u71 u72 u73 u74 u75 u76 u77 u78 u79 u80 u81 u82 u83 u84 u85 u86 u87 u88 u89 u90 u91 u92 u93 u94 u95 u96 u97 u98 u99 u100 u101 u102 u103 u104 u105 u106 u107 u108 u109 u110 u111 u112 u113 u114 u115 u116 u117 u118 u119 u120 u121 u122 u123 u124 u125 u126 u127 u128 u129 u130 u131 u132 u133 u134 u135 u136 u137 u138 u139 u140 u141 u142 u143 u144 u145 u146 u147 u148 u149 u150 u151 u152 u153 u154 u155 u156 u157 u158 u159 u160 u161 u162 u163 u164 u165 u166 u167 u168 u169 u170 u171 u172 u173 u174 u175 u176 u177 u178 u179 u180 u181 u182 u183 u184 u185 u186 : Value, (∃ (k : Nat) (T : Tk), k ≤ n ∧ u22 = .int .i64 k ∧ Hid (Below w.heap.size w w1 ∧ Bk w1 w.heap.size 44 #[.int .i64 0, .int .i64 0, .int .i64 0, .int .i64 0, .int .i64 0, .int .i64 0, .int .i64 0, .int .i64 0, .int .i64 0, .int .i64 0, .int .i64 0] ∧ Bk w1 gT 44 (tc T)) ∧ Hid (oneT P (l.take k) = some T)) ∧ a1 = ⟨#[.slice F np cp, .slice A n c, undef, undef, .pointer (some ⟨w.heap.size, 0, none⟩), u5, .pointer (some ⟨gT, 0, none⟩), u7, u8, u9, u10, u11, u12, u13, u14, u15, u16, u17, u18, .agg #[.int .i64 0, .int .i64 0, .int .i64 0, .int .i64 0, .int .i64 0, .int .i64 0, .int .i64 0, .int .i64 0, .int .i64 0, .int .i64 0, .int .i64 0], .slice A n c, .int .i64 (n : Int), u22, u23, u24, u25, u26, u27, u28, u29, u30, u31, u32, u33, u34, u35, u36, u37, u38, u39, u40, u41, u42, u43, u44, u45, u46, u47, u48, u49, u50, u51, u52, u53, u54, u55, u56, u57, u58, u59, u60, u61, u62, u63, u64, u65, u66, u67, u68, u69, u70, u71, u72, u73, u74, u75, u76, u77, u78, u79, u80, u81, u82, u83, u84, u85, u86, u87, u88, u89, u90, u91, u92, u93, u94, u95, u96, u97, u98, u99, u100, u101, u102, u103, u104, u105, u106, u107, u108, u109, u110, u111, u112, u113, u114, u115, u116, u117, u118, u119, u120, u121, u122, u123, u124, u125, u126, u127, u128, u129, u130, u131, u132, u133, u134, u135, u136, u137, u138, u139, u140, u141, u142, u143, u144, u145, u146, u147, u148, u149, u150, u151, u152, u153, u154, u155, u156, u157, u158, u159, u160, u161, u162, u163, u164, u165, u166, u167, u168, u169, u170, u171, u172, u173, u174, u175, u176, u177, u178, u179, u180, u181, u182, u183, u184, u185, u186, undef], []⟩) ∧ n - (intOf (a1.tmps.getD 22 undef)).toNat < n - (intOf ((⟨#[.slice F np cp, .slice A n c, undef, undef, .pointer (some ⟨w.heap.size, 0, none⟩), u5, .pointer (some ⟨gT, 0, none⟩), u7, u8, u9, u10, u11, u12, u13, u14, u15, u16, u17, u18, .agg #[.int .i64 0, .int .i64 0, .int .i64 0, .int .i64 0, .int .i64 0, .int .i64 0, .int .i64 0, .int .i64 0, .int .i64 0, .int .i64 0, .int .i64 0], .slice A n c, .int .i64 (n : Int), (.int .i64 (k : Int)), u23, u24, u25, u26, u27, u28, u29, u30, u31, u32, u33, u34, u35, u36, u37, u38, u39, u40, u41, u42, u43, u44, u45, u46, u47, u48, u49, u50, u51, u52, u53, u54, u55, u56, u57, u58, u59, u60, u61, u62, u63, u64, u65, u66, u67, u68, u69, u70, u71, u72, u73, u74, u75, u76, u77, u78, u79, u80, u81, u82, u83, u84, u85, u86, u87, u88, u89, u90, u91, u92, u93, u94, u95, u96, u97, u98, u99, u100, u101, u102, u103, u104, u105, u106, u107, u108, u109, u110, u111, u112, u113, u114, u115, u116, u117, u118, u119, u120, u121, u122, u123, u124, u125, u126, u127, u128, u129, u130, u131, u132, u133, u134, u135, u136, u137, u138, u139, u140, u141, u142, u143, u144, u145, u146, u147, u148, u149, u150, u151, u152, u153, u154, u155, u156, u157, u158, u159, u160, u161, u162, u163, u164, u165, u166, u167, u168, u169, u170, u171, u172, u173, u174, u175, u176, u177, u178, u179, u180, u181, u182, u183, u184, u185, u186, undef], []⟩ : Act).tmps.getD 22 undef)).toNat) (Exit.inBlock 0 (Exit.then K (bodyPost Tryd.prog Tryd.f27 (OneP P l w))))) ⟨#[.slice F np cp, .slice A n c, undef, undef, .pointer (some ⟨w.heap.size, 0, none⟩), u5, .pointer (some ⟨gT, 0, none⟩), u7, u8, u9, u10, u11, u12, u13, u14, u15, u16, u17, u18, .agg #[.int .i64 0, .int .i64 0, .int .i64 0, .int .i64 0, .int .i64 0, .int .i64 0, .int .i64 0, .int .i64 0, .int .i64 0, .int .i64 0, .int .i64 0], .slice A n c, .int .i64 (n : Int), (.int .i64 (k : Int)), u23, u24, u25, u26, u27, u28, u29, u30, u31, u32, u33, u34, u35, u36, u37, u38, u39, u40, u41, u42, u43, u44, u45, u46, u47, u48, u49, u50, u51, u52, u53, u54, u55, u56, u57, u58, u59, u60, u61, u62, u63, u64, u65, u66, u67, u68, u69, u70, u71, u72, u73, u74, u75, u76, u77, u78, u79, u80, u81, u82, u83, u84, u85, u86, u87, u88, u89, u90, u91, u92, u93, u94, u95, u96, u97, u98, u99, u100, u101, u102, u103, u104, u105, u106, u107, u108, u109, u110, u111, u112, u113, u114, u115, u116, u117, u118, u119, u120, u121, u122, u123, u124, u125, u126, u127, u128, u129, u130, u131, u132, u133, u134, u135, u136, u137, u138, u139, u140, u141, u142, u143, u144, u145, u146, u147, u148, u149, u150, u151, u152, u153, u154, u155, u156, u157, u158, u159, u160, u161, u162, u163, u164, u165, u166, u167, u168, u169, u170, u171, u172, u173, u174, u175, u176, u177, u178, u179, u180, u181, u182, u183, u184, u185, u186, undef], []⟩ wr := by
  conv => arg 2; whnf
  have BB := Lib.hid OW.out.1
  have KR := Lib.hid OW.out.2.1
  have KT : Hid (Bk wr gT 44 #[.int .i64 id, .int .i64 tn, .int .i64 pg, .int .i64 pc, .int .i64 un, .int .i64 k0, .int .i64 k1, .int .i64 k2, .int .i64 k3, .int .i64 st, .int .i64 rn]) := Lib.hid OW.out.2.2
  clear OW
  obtain ⟨b, o, rfl, hb, c0, c1, c2⟩ := (HL.out.below BB.out).at_ hkn
  have hkl : k < l.length := by rw [LX.out]; exact hkn
  rw [show jO l k = kd by unfold jO; rw [hz]] at c0
  rw [show jA l k = xi by unfold jA; rw [hz]] at c1
  rw [show jB l k = xa by unfold jB; rw [hz]] at c2
  have HZ := Lib.hid hz
  have hk0 : 0 < k := by omega
  obtain ⟨U, hU, LF⟩ := life_upto HOK.out (m := l.take k) (by rw [HT.out]; rfl) k hk0 (by rw [List.length_take]; omega)
  rw [List.take_take, Nat.min_self, HT.out] at hU
  injection hU with hU
  subst hU
  have hpg := LF.who.2.2
  dsimp only at hpg
  clear LF
  have HY := Lib.hid hy
  clear hy hz
  have HNX := Lib.hid (oneT_next (P := P) hk0 hkl HT.out)
  rw [HY.out, HZ.out] at HNX
  have t9 : ((k : Int) == 0) = false := by simp; omega
  have ek : IntKind.i64.wrap ((k : Int) - 1) = ((k - 1 : Nat) : Int) := by rw [IntKind.wrap_i64]; omega
  have ek2 : k - 1 < n := by omega
  have HS : Hid (oneT P (l.take (k + 1)) = none) := Lib.hid (by rw [HNX.out]; unfold stepT; dsimp only; rw [if_neg kq2, if_pos kq3, if_neg (fun q => s1 q.1)])
  have ts : (st == 1) = false ∧ (st != 1) = true := by constructor <;> (simp; omega)
  obtain ⟨ts, tsn⟩ := ts
  have tk2 : (kd == 2) = false ∧ (kd != 2) = true := by constructor <;> (simp; omega)
  obtain ⟨tk2, tk2n⟩ := tk2
  have tk3 : (kd == 3) = true ∧ (kd != 3) = false := by constructor <;> (simp; omega)
  obtain ⟨tk3, tk3n⟩ := tk3
  clear kq2 kq3
  clear s1
  have kn := Bk.new wr 41 #[.int .i64 kd, .int .i64 xi, .int .i64 xa]
  have ba := (Below.refl wr.heap.size wr).alloc (Nat.le_refl _) (.cells #[.int .i64 kd, .int .i64 xi, .int .i64 xa] 41)
  have hgb := BB.out.size
  have nR_E := Nat.ne_of_lt KR.out.lt
  have nT_E := Nat.ne_of_lt KT.out.lt
  replace BB := Lib.hid (below3 BB.out ba)
  replace KR := Lib.hid (KR.out.below ba KR.out.lt)
  replace KT := Lib.hid (KT.out.below ba KT.out.lt)
  obtain ⟨gE, hg⟩ : ∃ g, wr.heap.size = g := ⟨_, rfl⟩
  obtain ⟨V42, hW⟩ : ∃ W, wr.alloc (.cells #[.int .i64 kd, .int .i64 xi, .int .i64 xa] 41) = W := ⟨_, rfl⟩
  have KE := Lib.hid kn
  rw [hW] at BB KE KR KT
  rw [hg] at KE hgb nR_E nT_E
  have HGE := Lib.hid hg
  have HWE := Lib.hid hW
  have HBE := Lib.hid hgb
  have NR_E := Lib.hid nR_E
  have NT_E := Lib.hid nT_E
  clear hW hg kn ba hgb nR_E nT_E
  go_upto_region 5 with fail
  rw [HWE.out]
  try rw [HGE.out]
  clear HWE HGE
  skip
  clear c0 c1 c2
  obtain ⟨b2, o2, e2, hb2, d0, d1, d2⟩ := (HL.out.below BB.out).at_ (j := k - 1) (by omega)
  injection e2 with e2
  injection e2 with e3 e4 _
  subst e3 e4
  rw [show jO l (k - 1) = lk by unfold jO; rw [HY.out]] at d0
  rw [show jA l (k - 1) = li by unfold jA; rw [HY.out]] at d1
  rw [show jB l (k - 1) = la by unfold jB; rw [HY.out]] at d2
  go_upto_region 10 with fail
  have kn := Bk.new V42 41 #[.int .i64 lk, .int .i64 li, .int .i64 la]
  have ba := (Below.refl V42.heap.size V42).alloc (Nat.le_refl _) (.cells #[.int .i64 lk, .int .i64 li, .int .i64 la] 41)
  have hgb := BB.out.size
  have nR_X := Nat.ne_of_lt KR.out.lt
  have nT_X := Nat.ne_of_lt KT.out.lt
  have nE_X := Nat.ne_of_lt KE.out.lt
  replace BB := Lib.hid (below3 BB.out ba)
  replace KR := Lib.hid (KR.out.below ba KR.out.lt)
  replace KT := Lib.hid (KT.out.below ba KT.out.lt)
  replace KE := Lib.hid (KE.out.below ba KE.out.lt)
  obtain ⟨gX, hg⟩ : ∃ g, V42.heap.size = g := ⟨_, rfl⟩
  obtain ⟨V43, hW⟩ : ∃ W, V42.alloc (.cells #[.int .i64 lk, .int .i64 li, .int .i64 la] 41) = W := ⟨_, rfl⟩
  have KX := Lib.hid kn
  rw [hW] at BB KX KR KT KE
  rw [hg] at KX hgb nR_X nT_X nE_X
  have HGX := Lib.hid hg
  have HWX := Lib.hid hW
  have HBX := Lib.hid hgb
  have NR_X := Lib.hid nR_X
  have NT_X := Lib.hid nT_X
  have NE_X := Lib.hid nE_X
  clear hW hg kn ba hgb nR_X nT_X nE_X
  go_upto_region 11 with fail
  rw [HWX.out]
  try rw [HGX.out]
  clear HWX HGX
  clear d0 d1 d2 hb2
  have HH := Lib.hid fun (U : World) => (held_tr la U).mono fun _ _ (p : RetW _ U _ _) => And.intro p.1 p.2.symm
  have HNO : Hid (oneT P l = none) := Lib.hid (oneT_none HS.out)
  obtain ⟨qT_0, qT_1, qT_2, qT_3, qT_4, qT_5, qT_6, qT_7, qT_8, qT_9, qT_10⟩ := KT.out.c11
  have lT := KT.out.lt
  obtain ⟨qE_0, qE_1, qE_2⟩ := KE.out.c3
  have lE := KE.out.lt
  obtain ⟨qX_0, qX_1, qX_2⟩ := KX.out.c3
  have lX := KX.out.lt
  go_wp2
  go_quiet ((go_at_call 22; exact Calls.quiet_of_same (HH.out _)))
  clear qT_0 qT_1 qT_2 qT_3 qT_4 qT_5 qT_6 qT_7 qT_8 qT_9 qT_10 lT qE_0 qE_1 qE_2 lE qX_0 qX_1 qX_2 lX
  have bd := below_drewN (Below.refl V43.heap.size V43) nq
  replace BB := Lib.hid (below3 BB.out bd)
  replace KR := Lib.hid (KR.out.below bd KR.out.lt)
  replace KT := Lib.hid (KT.out.below bd KT.out.lt)
  replace KE := Lib.hid (KE.out.below bd KE.out.lt)
  replace KX := Lib.hid (KX.out.below bd KX.out.lt)
  obtain ⟨D, hD⟩ : ∃ D, V43.drewN nq = D := ⟨_, rfl⟩
  rw [hD] at BB KR KT KE KX ⊢
  clear hD bd
  go_upto_region 25 with fail
  obtain ⟨qT_0, qT_1, qT_2, qT_3, qT_4, qT_5, qT_6, qT_7, qT_8, qT_9, qT_10⟩ := KT.out.c11
  have lT := KT.out.lt
  obtain ⟨qR_0, qR_1, qR_2, qR_3, qR_4, qR_5, qR_6, qR_7, qR_8, qR_9, qR_10⟩ := KR.out.c11
  have lR := KR.out.lt
  obtain ⟨fR_0, fR_1, fR_2, fR_3, fR_4, fR_5, fR_6, fR_7, fR_8, fR_9, fR_10⟩ := KR.out.f11
  have B_R := Lib.hid (below_set11 (g := w.heap.size) BB.out HBR.out (.int .i64 id) (.int .i64 tn) (.int .i64 pg) (.int .i64 pc) (.int .i64 un) (.int .i64 k0) (.int .i64 k1) (.int .i64 k2) (.int .i64 k3) (.int .i64 st) (.int .i64 rn))
  have S_R := Lib.hid (bk_set11 KR.out (.int .i64 id) (.int .i64 tn) (.int .i64 pg) (.int .i64 pc) (.int .i64 un) (.int .i64 k0) (.int .i64 k1) (.int .i64 k2) (.int .i64 k3) (.int .i64 st) (.int .i64 rn))
  unfold set11 at B_R
  go_wp2
  obtain ⟨rR_0, rR_1, rR_2, rR_3, rR_4, rR_5, rR_6, rR_7, rR_8, rR_9, rR_10⟩ := Bk.c11 (S_R.out)
  unfold set11 at rR_0 rR_1 rR_2 rR_3 rR_4 rR_5 rR_6 rR_7 rR_8 rR_9 rR_10
  exact bodyPost_ret (v := .tuple #[.agg #[.int .i64 id, .int .i64 tn, .int .i64 pg, .int .i64 pc, .int .i64 un, .int .i64 k0, .int .i64 k1, .int .i64 k2, .int .i64 k3, .int .i64 st, .int .i64 rn], .bool false]) (by simp [results, Tryd.results27, go_sem, rR_0, rR_1, rR_2, rR_3, rR_4, rR_5, rR_6, rR_7, rR_8, rR_9, rR_10]) rfl ⟨⟨id, tn, pg, pc, un, k0, k1, k2, k3, st, rn⟩, by rw [HNO.out]; rfl, (fun u hu => by rw [HNO.out] at hu; cases hu), B_R.out⟩

set_option maxRecDepth 100000 in
set_option maxHeartbeats 2000000 in
theorem one_w18 (F A : Option Addr) (np cp n c : Nat) (P : List (List I3)) (l : List I3) (w wr : World) (gT : Nat) (K : Act → World → Prop) (_HPP : Hid (Prgs w F np P)) (_PL : Hid (P.length = np)) (HL : Hid (Prog w A n c l)) (LX : Hid (l.length = n)) (HOK : Hid (okL P)) (_hnc : n ≤ c ∧ c ≤ 9223372036854775807) (_hpc : np ≤ 9223372036854775807) (_HBR : Hid (w.heap.size ≤ w.heap.size)) (HBT : Hid (w.heap.size ≤ gT)) (NR_T : Hid (w.heap.size ≠ gT)) (k : Nat) (id tn pg pc un k0 k1 k2 k3 st rn : Int) (OW : Hid (Below w.heap.size w wr ∧ Bk wr w.heap.size 44 #[.int .i64 0, .int .i64 0, .int .i64 0, .int .i64 0, .int .i64 0, .int .i64 0, .int .i64 0, .int .i64 0, .int .i64 0, .int .i64 0, .int .i64 0] ∧ Bk wr gT 44 (tc ⟨id, tn, pg, pc, un, k0, k1, k2, k3, st, rn⟩))) (HT : Hid (oneT P (l.take k) = some ⟨id, tn, pg, pc, un, k0, k1, k2, k3, st, rn⟩)) (kd xi xa : Int) (hz : ith l k = (kd, xi, xa)) (lk li la : Int) (hy : ith l (k - 1) = (lk, li, la)) (hkn : k < n) (_hk1 : ¬ (k = 0)) (kq2 : ¬ (kd = 2)) (kq3 : ¬ (kd = 3)) (kq4 : kd = 4) (w1 : wtB st = true) (a0 : xa = 0) (u5 u7 u8 u9 u10 u11 u12 u13 u14 u15 u16 u17 u18 u23 u24 u25 u26 u27 u28 u29 u30 u31 u32 u33 u34 u35 u36 u37 u38 u39 u40 u41 u42 u43 u44 u45 u46 u47 u48 u49 u50 u51 u52 u53 u54 u55 u56 u57 u58 u59 u60 u61 u62 u63 u64 u65 u66 u67 u68 u69 u70 u71 u72 u73 u74 u75 u76 u77 u78 u79 u80 u81 u82 u83 u84 u85 u86 u87 u88 u89 u90 u91 u92 u93 u94 u95 u96 u97 u98 u99 u100 u101 u102 u103 u104 u105 u106 u107 u108 u109 u110 u111 u112 u113 u114 u115 u116 u117 u118 u119 u120 u121 u122 u123 u124 u125 u126 u127 u128 u129 u130 u131 u132 u133 u134 u135 u136 u137 u138 u139 u140 u141 u142 u143 u144 u145 u146 u147 u148 u149 u150 u151 u152 u153 u154 u155 u156 u157 u158 u159 u160 u161 u162 u163 u164 u165 u166 u167 u168 u169 u170 u171 u172 u173 u174 u175 u176 u177 u178 u179 u180 u181 u182 u183 u184 u185 u186 : Value) :
    Code.wp Tryd.prog oneBody (Exit.then (fun (a1 : Act) (w1 : World) => (∃ u5 u7 u8 u9 u10 u11 u12 u13 u14 u15 u16 u17 u18 u22 u23 u24 u25 u26 u27 u28 u29 u30 u31 u32 u33 u34 u35 u36 u37 u38 u39 u40 u41 u42 u43 u44 u45 u46 u47 u48 u49 u50 u51 u52 u53 u54 u55 u56 u57 u58 u59 u60 u61 u62 u63 u64 u65 u66 u67 u68 u69 u70 u71 u72 u73 u74 u75 u76 u77 u78 u79 u80 u81 u82 u83 u84 u85 u86 u87 u88 u89 u90 u91 u92 u93 u94 u95 u96 u97 u98 u99 u100 u101 u102 u103 u104 u105 u106 u107 u108 u109 u110 u111 u112 u113 u114 u115 u116 u117 u118 u119 u120 u121 u122 u123 u124 u125 u126 u127 u128 u129 u130 u131 u132 u133 u134 u135 u136 u137 u138 u139 u140 u141 u142 u143 u144 u145 u146 u147 u148 u149 u150 u151 u152 u153 u154 u155 u156 u157 u158 u159 u160 u161 u162 u163 u164 u165 u166 u167 u168 u169 u170 u171 u172 u173 u174 u175 u176 u177 u178 u179 u180 u181 u182 u183 u184 u185 u186 : Value, (∃ (k : Nat) (T : Tk), k ≤ n ∧ u22 = .int .i64 k ∧ Hid (Below w.heap.size w w1 ∧ Bk w1 w.heap.size 44 #[.int .i64 0, .int .i64 0, .int .i64 0, .int .i64 0, .int .i64 0, .int .i64 0, .int .i64 0, .int .i64 0, .int .i64 0, .int .i64 0, .int .i64 0] ∧ Bk w1 gT 44 (tc T)) ∧ Hid (oneT P (l.take k) = some T)) ∧ a1 = ⟨#[.slice F np cp, .slice A n c, undef, undef, .pointer (some ⟨w.heap.size, 0, none⟩), u5, .pointer (some ⟨gT, 0, none⟩), u7, u8, u9, u10, u11, u12, u13, u14, u15, u16, u17, u18, .agg #[.int .i64 0, .int .i64 0, .int .i64 0, .int .i64 0, .int .i64 0, .int .i64 0, .int .i64 0, .int .i64 0, .int .i64 0, .int .i64 0, .int .i64 0], .slice A n c, .int .i64 (n : Int), u22, u23, u24, u25, u26, u27, u28, u29, u30, u31, u32, u33, u34, u35, u36, u37, u38, u39, u40, u41, u42, u43, u44, u45, u46, u47, u48, u49, u50, u51, u52, u53, u54, u55, u56, u57, u58, u59, u60, u61, u62, u63, u64, u65, u66, u67, u68, u69, u70, u71, u72, u73, u74, u75, u76, u77, u78, u79, u80, u81, u82, u83, u84, u85, u86, u87, u88, u89, u90, u91, u92, u93, u94, u95, u96, u97, u98, u99, u100, u101, u102, u103, u104, u105, u106, u107, u108, u109, u110, u111, u112, u113, u114, u115, u116, u117, u118, u119, u120, u121, u122, u123, u124, u125, u126, u127, u128, u129, u130, u131, u132, u133, u134, u135, u136, u137, u138, u139, u140, u141, u142, u143, u144, u145, u146, u147, u148, u149, u150, u151, u152, u153, u154, u155, u156, u157, u158, u159, u160, u161, u162, u163, u164, u165, u166, u167, u168, u169, u170, u171, u172, u173, u174, u175, u176, u177, u178, u179, u180, u181, u182, u183, u184, u185, u186, undef], []⟩) ∧ n - (intOf (a1.tmps.getD 22 undef)).toNat < n - (intOf ((⟨#[.slice F np cp, .slice A n c, undef, undef, .pointer (some ⟨w.heap.size, 0, none⟩), u5, .pointer (some ⟨gT, 0, none⟩), u7, u8, u9, u10, u11, u12, u13, u14, u15, u16, u17, u18, .agg #[.int .i64 0, .int .i64 0, .int .i64 0, .int .i64 0, .int .i64 0, .int .i64 0, .int .i64 0, .int .i64 0, .int .i64 0, .int .i64 0, .int .i64 0], .slice A n c, .int .i64 (n : Int), (.int .i64 (k : Int)), u23, u24, u25, u26, u27, u28, u29, u30, u31, u32, u33, u34, u35, u36, u37, u38, u39, u40, u41, u42, u43, u44, u45, u46, u47, u48, u49, u50, u51, u52, u53, u54, u55, u56, u57, u58, u59, u60, u61, u62, u63, u64, u65, u66, u67, u68, u69, u70, u71, u72, u73, u74, u75, u76, u77, u78, u79, u80, u81, u82, u83, u84, u85, u86, u87, u88, u89, u90, u91, u92, u93, u94, u95, u96, u97, u98, u99, u100, u101, u102, u103, u104, u105, u106, u107, u108, u109, u110, u111, u112, u113, u114, u115, u116, u117, u118, u119, u120, u121, u122, u123, u124, u125, u126, u127, u128, u129, u130, u131, u132, u133, u134, u135, u136, u137, u138, u139, u140, u141, u142, u143, u144, u145, u146, u147, u148, u149, u150, u151, u152, u153, u154, u155, u156, u157, u158, u159, u160, u161, u162, u163, u164, u165, u166, u167, u168, u169, u170, u171, u172, u173, u174, u175, u176, u177, u178, u179, u180, u181, u182, u183, u184, u185, u186, undef], []⟩ : Act).tmps.getD 22 undef)).toNat) (Exit.inBlock 0 (Exit.then K (bodyPost Tryd.prog Tryd.f27 (OneP P l w))))) ⟨#[.slice F np cp, .slice A n c, undef, undef, .pointer (some ⟨w.heap.size, 0, none⟩), u5, .pointer (some ⟨gT, 0, none⟩), u7, u8, u9, u10, u11, u12, u13, u14, u15, u16, u17, u18, .agg #[.int .i64 0, .int .i64 0, .int .i64 0, .int .i64 0, .int .i64 0, .int .i64 0, .int .i64 0, .int .i64 0, .int .i64 0, .int .i64 0, .int .i64 0], .slice A n c, .int .i64 (n : Int), (.int .i64 (k : Int)), u23, u24, u25, u26, u27, u28, u29, u30, u31, u32, u33, u34, u35, u36, u37, u38, u39, u40, u41, u42, u43, u44, u45, u46, u47, u48, u49, u50, u51, u52, u53, u54, u55, u56, u57, u58, u59, u60, u61, u62, u63, u64, u65, u66, u67, u68, u69, u70, u71, u72, u73, u74, u75, u76, u77, u78, u79, u80, u81, u82, u83, u84, u85, u86, u87, u88, u89, u90, u91, u92, u93, u94, u95, u96, u97, u98, u99, u100, u101, u102, u103, u104, u105, u106, u107, u108, u109, u110, u111, u112, u113, u114, u115, u116, u117, u118, u119, u120, u121, u122, u123, u124, u125, u126, u127, u128, u129, u130, u131, u132, u133, u134, u135, u136, u137, u138, u139, u140, u141, u142, u143, u144, u145, u146, u147, u148, u149, u150, u151, u152, u153, u154, u155, u156, u157, u158, u159, u160, u161, u162, u163, u164, u165, u166, u167, u168, u169, u170, u171, u172, u173, u174, u175, u176, u177, u178, u179, u180, u181, u182, u183, u184, u185, u186, undef], []⟩ wr := by
  conv => arg 2; whnf
  have BB := Lib.hid OW.out.1
  have KR := Lib.hid OW.out.2.1
  have KT : Hid (Bk wr gT 44 #[.int .i64 id, .int .i64 tn, .int .i64 pg, .int .i64 pc, .int .i64 un, .int .i64 k0, .int .i64 k1, .int .i64 k2, .int .i64 k3, .int .i64 st, .int .i64 rn]) := Lib.hid OW.out.2.2
  clear OW
  obtain ⟨b, o, rfl, hb, c0, c1, c2⟩ := (HL.out.below BB.out).at_ hkn
  have hkl : k < l.length := by rw [LX.out]; exact hkn
  rw [show jO l k = kd by unfold jO; rw [hz]] at c0
  rw [show jA l k = xi by unfold jA; rw [hz]] at c1
  rw [show jB l k = xa by unfold jB; rw [hz]] at c2
  have HZ := Lib.hid hz
  have hk0 : 0 < k := by omega
  obtain ⟨U, hU, LF⟩ := life_upto HOK.out (m := l.take k) (by rw [HT.out]; rfl) k hk0 (by rw [List.length_take]; omega)
  rw [List.take_take, Nat.min_self, HT.out] at hU
  injection hU with hU
  subst hU
  have hpg := LF.who.2.2
  dsimp only at hpg
  clear LF
  have HY := Lib.hid hy
  clear hy hz
  have HNX := Lib.hid (oneT_next (P := P) hk0 hkl HT.out)
  rw [HY.out, HZ.out] at HNX
  have t9 : ((k : Int) == 0) = false := by simp; omega
  have ek : IntKind.i64.wrap ((k : Int) - 1) = ((k - 1 : Nat) : Int) := by rw [IntKind.wrap_i64]; omega
  have ek2 : k - 1 < n := by omega
  have HS : Hid (oneT P (l.take (k + 1)) = some ⟨id, tn, pg, pc, un, k0, k1, k2, k3, 1, rn⟩) := Lib.hid (by rw [HNX.out]; unfold stepT; dsimp only; rw [if_neg kq2, if_neg kq3, if_pos kq4, if_pos ⟨w1, a0⟩])
  have HWT : Hid (wtB st = true) := Lib.hid w1
  have tx : (xa == 0) = true ∧ (xa != 0) = false := by constructor <;> (simp; omega)
  obtain ⟨tx, txn⟩ := tx
  have tk2 : (kd == 2) = false ∧ (kd != 2) = true := by constructor <;> (simp; omega)
  obtain ⟨tk2, tk2n⟩ := tk2
  have tk3 : (kd == 3) = false ∧ (kd != 3) = true := by constructor <;> (simp; omega)
  obtain ⟨tk3, tk3n⟩ := tk3
  have tk4 : (kd == 4) = true ∧ (kd != 4) = false := by constructor <;> (simp; omega)
  obtain ⟨tk4, tk4n⟩ := tk4
  clear kq2 kq3 kq4
  clear w1 a0
  have kn := Bk.new wr 41 #[.int .i64 kd, .int .i64 xi, .int .i64 xa]
  have ba := (Below.refl wr.heap.size wr).alloc (Nat.le_refl _) (.cells #[.int .i64 kd, .int .i64 xi, .int .i64 xa] 41)
  have hgb := BB.out.size
  have nR_E := Nat.ne_of_lt KR.out.lt
  have nT_E := Nat.ne_of_lt KT.out.lt
  replace BB := Lib.hid (below3 BB.out ba)
  replace KR := Lib.hid (KR.out.below ba KR.out.lt)
  replace KT := Lib.hid (KT.out.below ba KT.out.lt)
  obtain ⟨gE, hg⟩ : ∃ g, wr.heap.size = g := ⟨_, rfl⟩
  obtain ⟨V42, hW⟩ : ∃ W, wr.alloc (.cells #[.int .i64 kd, .int .i64 xi, .int .i64 xa] 41) = W := ⟨_, rfl⟩
  have KE := Lib.hid kn
  rw [hW] at BB KE KR KT
  rw [hg] at KE hgb nR_E nT_E
  have HGE := Lib.hid hg
  have HWE := Lib.hid hW
  have HBE := Lib.hid hgb
  have NR_E := Lib.hid nR_E
  have NT_E := Lib.hid nT_E
  clear hW hg kn ba hgb nR_E nT_E
  go_upto_region 5 with fail
  rw [HWE.out]
  try rw [HGE.out]
  clear HWE HGE
  skip
  clear c0 c1 c2
  obtain ⟨b2, o2, e2, hb2, d0, d1, d2⟩ := (HL.out.below BB.out).at_ (j := k - 1) (by omega)
  injection e2 with e2
  injection e2 with e3 e4 _
  subst e3 e4
  rw [show jO l (k - 1) = lk by unfold jO; rw [HY.out]] at d0
  rw [show jA l (k - 1) = li by unfold jA; rw [HY.out]] at d1
  rw [show jB l (k - 1) = la by unfold jB; rw [HY.out]] at d2
  go_upto_region 10 with fail
  have kn := Bk.new V42 41 #[.int .i64 lk, .int .i64 li, .int .i64 la]
  have ba := (Below.refl V42.heap.size V42).alloc (Nat.le_refl _) (.cells #[.int .i64 lk, .int .i64 li, .int .i64 la] 41)
  have hgb := BB.out.size
  have nR_X := Nat.ne_of_lt KR.out.lt
  have nT_X := Nat.ne_of_lt KT.out.lt
  have nE_X := Nat.ne_of_lt KE.out.lt
  replace BB := Lib.hid (below3 BB.out ba)
  replace KR := Lib.hid (KR.out.below ba KR.out.lt)
  replace KT := Lib.hid (KT.out.below ba KT.out.lt)
  replace KE := Lib.hid (KE.out.below ba KE.out.lt)
  obtain ⟨gX, hg⟩ : ∃ g, V42.heap.size = g := ⟨_, rfl⟩
  obtain ⟨V43, hW⟩ : ∃ W, V42.alloc (.cells #[.int .i64 lk, .int .i64 li, .int .i64 la] 41) = W := ⟨_, rfl⟩
  have KX := Lib.hid kn
  rw [hW] at BB KX KR KT KE
  rw [hg] at KX hgb nR_X nT_X nE_X
  have HGX := Lib.hid hg
  have HWX := Lib.hid hW
  have HBX := Lib.hid hgb
  have NR_X := Lib.hid nR_X
  have NT_X := Lib.hid nT_X
  have NE_X := Lib.hid nE_X
  clear hW hg kn ba hgb nR_X nT_X nE_X
  go_upto_region 11 with fail
  rw [HWX.out]
  try rw [HGX.out]
  clear HWX HGX
  clear d0 d1 d2 hb2
  have HH := Lib.hid fun (U : World) => (rwt_any st U).mono fun _ _ (p : RetW _ U _ _) => And.intro p.1 p.2.symm
  obtain ⟨qT_0, qT_1, qT_2, qT_3, qT_4, qT_5, qT_6, qT_7, qT_8, qT_9, qT_10⟩ := KT.out.c11
  have lT := KT.out.lt
  obtain ⟨qE_0, qE_1, qE_2⟩ := KE.out.c3
  have lE := KE.out.lt
  obtain ⟨qX_0, qX_1, qX_2⟩ := KX.out.c3
  have lX := KX.out.lt
  go_wp2_with fail
  refine (rwt_any st _).mono ?_
  rw [HWT.out]
  rintro e U1 ⟨rfl, hw⟩
  subst hw
  obtain ⟨ff0, ff1, ff2, ff3, ff4, ff5, ff6, ff7, ff8, ff9, ff10⟩ := KT.out.f11
  have x0 : Hid (Bk _ gT 44 #[.int .i64 id, .int .i64 tn, .int .i64 pg, .int .i64 pc, .int .i64 un, .int .i64 k0, .int .i64 k1, .int .i64 k2, .int .i64 k3, .int .i64 1, .int .i64 rn]) := Lib.hid (KT.out.set_ 9 (.int .i64 1))
  have xb := Lib.hid (BB.out.setCell (p := ⟨gT, 9, none⟩) HBT.out (.int .i64 1))
  have xr := Lib.hid (KR.out.far (p := ⟨gT, 9, none⟩) NR_T.out (.int .i64 1))
  go_wp2_with fail
  go_roundw
  case rel => exact ⟨k + 1, ⟨id, tn, pg, pc, un, k0, k1, k2, k3, 1, rn⟩, by omega, by go_num, Lib.hid ⟨xb.out, xr.out, x0.out⟩, HS⟩
  case measure => simp [intOf]; omega

set_option maxRecDepth 100000 in
set_option maxHeartbeats 2000000 in
theorem one_w19 (F A : Option Addr) (np cp n c : Nat) (P : List (List I3)) (l : List I3) (w wr : World) (gT : Nat) (K : Act → World → Prop) (_HPP : Hid (Prgs w F np P)) (_PL : Hid (P.length = np)) (HL : Hid (Prog w A n c l)) (LX : Hid (l.length = n)) (HOK : Hid (okL P)) (_hnc : n ≤ c ∧ c ≤ 9223372036854775807) (_hpc : np ≤ 9223372036854775807) (HBR : Hid (w.heap.size ≤ w.heap.size)) (_HBT : Hid (w.heap.size ≤ gT)) (_NR_T : Hid (w.heap.size ≠ gT)) (k : Nat) (id tn pg pc un k0 k1 k2 k3 st rn : Int) (OW : Hid (Below w.heap.size w wr ∧ Bk wr w.heap.size 44 #[.int .i64 0, .int .i64 0, .int .i64 0, .int .i64 0, .int .i64 0, .int .i64 0, .int .i64 0, .int .i64 0, .int .i64 0, .int .i64 0, .int .i64 0] ∧ Bk wr gT 44 (tc ⟨id, tn, pg, pc, un, k0, k1, k2, k3, st, rn⟩))) (HT : Hid (oneT P (l.take k) = some ⟨id, tn, pg, pc, un, k0, k1, k2, k3, st, rn⟩)) (kd xi xa : Int) (hz : ith l k = (kd, xi, xa)) (lk li la : Int) (hy : ith l (k - 1) = (lk, li, la)) (hkn : k < n) (_hk1 : ¬ (k = 0)) (kq2 : ¬ (kd = 2)) (kq3 : ¬ (kd = 3)) (kq4 : kd = 4) (w1 : wtB st = true) (a0 : ¬ (xa = 0)) (u5 u7 u8 u9 u10 u11 u12 u13 u14 u15 u16 u17 u18 u23 u24 u25 u26 u27 u28 u29 u30 u31 u32 u33 u34 u35 u36 u37 u38 u39 u40 u41 u42 u43 u44 u45 u46 u47 u48 u49 u50 u51 u52 u53 u54 u55 u56 u57 u58 u59 u60 u61 u62 u63 u64 u65 u66 u67 u68 u69 u70 u71 u72 u73 u74 u75 u76 u77 u78 u79 u80 u81 u82 u83 u84 u85 u86 u87 u88 u89 u90 u91 u92 u93 u94 u95 u96 u97 u98 u99 u100 u101 u102 u103 u104 u105 u106 u107 u108 u109 u110 u111 u112 u113 u114 u115 u116 u117 u118 u119 u120 u121 u122 u123 u124 u125 u126 u127 u128 u129 u130 u131 u132 u133 u134 u135 u136 u137 u138 u139 u140 u141 u142 u143 u144 u145 u146 u147 u148 u149 u150 u151 u152 u153 u154 u155 u156 u157 u158 u159 u160 u161 u162 u163 u164 u165 u166 u167 u168 u169 u170 u171 u172 u173 u174 u175 u176 u177 u178 u179 u180 u181 u182 u183 u184 u185 u186 : Value) :
    Code.wp Tryd.prog oneBody (Exit.then (fun (a1 : Act) (w1 : World) => (∃ u5 u7 u8 u9 u10 u11 u12 u13 u14 u15 u16 u17 u18 u22 u23 u24 u25 u26 u27 u28 u29 u30 u31 u32 u33 u34 u35 u36 u37 u38 u39 u40 u41 u42 u43 u44 u45 u46 u47 u48 u49 u50 u51 u52 u53 u54 u55 u56 u57 u58 u59 u60 u61 u62 u63 u64 u65 u66 u67 u68 u69 u70 u71 u72 u73 u74 u75 u76 u77 u78 u79 u80 u81 u82 u83 u84 u85 u86 u87 u88 u89 u90 u91 u92 u93 u94 u95 u96 u97 u98 u99 u100 u101 u102 u103 u104 u105 u106 u107 u108 u109 u110 u111 u112 u113 u114 u115 u116 u117 u118 u119 u120 u121 u122 u123 u124 u125 u126 u127 u128 u129 u130 u131 u132 u133 u134 u135 u136 u137 u138 u139 u140 u141 u142 u143 u144 u145 u146 u147 u148 u149 u150 u151 u152 u153 u154 u155 u156 u157 u158 u159 u160 u161 u162 u163 u164 u165 u166 u167 u168 u169 u170 u171 u172 u173 u174 u175 u176 u177 u178 u179 u180 u181 u182 u183 u184 u185 u186 : Value, (∃ (k : Nat) (T : Tk), k ≤ n ∧ u22 = .int .i64 k ∧ Hid (Below w.heap.size w w1 ∧ Bk w1 w.heap.size 44 #[.int .i64 0, .int .i64 0, .int .i64 0, .int .i64 0, .int .i64 0, .int .i64 0, .int .i64 0, .int .i64 0, .int .i64 0, .int .i64 0, .int .i64 0] ∧ Bk w1 gT 44 (tc T)) ∧ Hid (oneT P (l.take k) = some T)) ∧ a1 = ⟨#[.slice F np cp, .slice A n c, undef, undef, .pointer (some ⟨w.heap.size, 0, none⟩), u5, .pointer (some ⟨gT, 0, none⟩), u7, u8, u9, u10, u11, u12, u13, u14, u15, u16, u17, u18, .agg #[.int .i64 0, .int .i64 0, .int .i64 0, .int .i64 0, .int .i64 0, .int .i64 0, .int .i64 0, .int .i64 0, .int .i64 0, .int .i64 0, .int .i64 0], .slice A n c, .int .i64 (n : Int), u22, u23, u24, u25, u26, u27, u28, u29, u30, u31, u32, u33, u34, u35, u36, u37, u38, u39, u40, u41, u42, u43, u44, u45, u46, u47, u48, u49, u50, u51, u52, u53, u54, u55, u56, u57, u58, u59, u60, u61, u62, u63, u64, u65, u66, u67, u68, u69, u70, u71, u72, u73, u74, u75, u76, u77, u78, u79, u80, u81, u82, u83, u84, u85, u86, u87, u88, u89, u90, u91, u92, u93, u94, u95, u96, u97, u98, u99, u100, u101, u102, u103, u104, u105, u106, u107, u108, u109, u110, u111, u112, u113, u114, u115, u116, u117, u118, u119, u120, u121, u122, u123, u124, u125, u126, u127, u128, u129, u130, u131, u132, u133, u134, u135, u136, u137, u138, u139, u140, u141, u142, u143, u144, u145, u146, u147, u148, u149, u150, u151, u152, u153, u154, u155, u156, u157, u158, u159, u160, u161, u162, u163, u164, u165, u166, u167, u168, u169, u170, u171, u172, u173, u174, u175, u176, u177, u178, u179, u180, u181, u182, u183, u184, u185, u186, undef], []⟩) ∧ n - (intOf (a1.tmps.getD 22 undef)).toNat < n - (intOf ((⟨#[.slice F np cp, .slice A n c, undef, undef, .pointer (some ⟨w.heap.size, 0, none⟩), u5, .pointer (some ⟨gT, 0, none⟩), u7, u8, u9, u10, u11, u12, u13, u14, u15, u16, u17, u18, .agg #[.int .i64 0, .int .i64 0, .int .i64 0, .int .i64 0, .int .i64 0, .int .i64 0, .int .i64 0, .int .i64 0, .int .i64 0, .int .i64 0, .int .i64 0], .slice A n c, .int .i64 (n : Int), (.int .i64 (k : Int)), u23, u24, u25, u26, u27, u28, u29, u30, u31, u32, u33, u34, u35, u36, u37, u38, u39, u40, u41, u42, u43, u44, u45, u46, u47, u48, u49, u50, u51, u52, u53, u54, u55, u56, u57, u58, u59, u60, u61, u62, u63, u64, u65, u66, u67, u68, u69, u70, u71, u72, u73, u74, u75, u76, u77, u78, u79, u80, u81, u82, u83, u84, u85, u86, u87, u88, u89, u90, u91, u92, u93, u94, u95, u96, u97, u98, u99, u100, u101, u102, u103, u104, u105, u106, u107, u108, u109, u110, u111, u112, u113, u114, u115, u116, u117, u118, u119, u120, u121, u122, u123, u124, u125, u126, u127, u128, u129, u130, u131, u132, u133, u134, u135, u136, u137, u138, u139, u140, u141, u142, u143, u144, u145, u146, u147, u148, u149, u150, u151, u152, u153, u154, u155, u156, u157, u158, u159, u160, u161, u162, u163, u164, u165, u166, u167, u168, u169, u170, u171, u172, u173, u174, u175, u176, u177, u178, u179, u180, u181, u182, u183, u184, u185, u186, undef], []⟩ : Act).tmps.getD 22 undef)).toNat) (Exit.inBlock 0 (Exit.then K (bodyPost Tryd.prog Tryd.f27 (OneP P l w))))) ⟨#[.slice F np cp, .slice A n c, undef, undef, .pointer (some ⟨w.heap.size, 0, none⟩), u5, .pointer (some ⟨gT, 0, none⟩), u7, u8, u9, u10, u11, u12, u13, u14, u15, u16, u17, u18, .agg #[.int .i64 0, .int .i64 0, .int .i64 0, .int .i64 0, .int .i64 0, .int .i64 0, .int .i64 0, .int .i64 0, .int .i64 0, .int .i64 0, .int .i64 0], .slice A n c, .int .i64 (n : Int), (.int .i64 (k : Int)), u23, u24, u25, u26, u27, u28, u29, u30, u31, u32, u33, u34, u35, u36, u37, u38, u39, u40, u41, u42, u43, u44, u45, u46, u47, u48, u49, u50, u51, u52, u53, u54, u55, u56, u57, u58, u59, u60, u61, u62, u63, u64, u65, u66, u67, u68, u69, u70, u71, u72, u73, u74, u75, u76, u77, u78, u79, u80, u81, u82, u83, u84, u85, u86, u87, u88, u89, u90, u91, u92, u93, u94, u95, u96, u97, u98, u99, u100, u101, u102, u103, u104, u105, u106, u107, u108, u109, u110, u111, u112, u113, u114, u115, u116, u117, u118, u119, u120, u121, u122, u123, u124, u125, u126, u127, u128, u129, u130, u131, u132, u133, u134, u135, u136, u137, u138, u139, u140, u141, u142, u143, u144, u145, u146, u147, u148, u149, u150, u151, u152, u153, u154, u155, u156, u157, u158, u159, u160, u161, u162, u163, u164, u165, u166, u167, u168, u169, u170, u171, u172, u173, u174, u175, u176, u177, u178, u179, u180, u181, u182, u183, u184, u185, u186, undef], []⟩ wr := by
  conv => arg 2; whnf
  have BB := Lib.hid OW.out.1
  have KR := Lib.hid OW.out.2.1
  have KT : Hid (Bk wr gT 44 #[.int .i64 id, .int .i64 tn, .int .i64 pg, .int .i64 pc, .int .i64 un, .int .i64 k0, .int .i64 k1, .int .i64 k2, .int .i64 k3, .int .i64 st, .int .i64 rn]) := Lib.hid OW.out.2.2
  clear OW
  obtain ⟨b, o, rfl, hb, c0, c1, c2⟩ := (HL.out.below BB.out).at_ hkn
  have hkl : k < l.length := by rw [LX.out]; exact hkn
  rw [show jO l k = kd by unfold jO; rw [hz]] at c0
  rw [show jA l k = xi by unfold jA; rw [hz]] at c1
  rw [show jB l k = xa by unfold jB; rw [hz]] at c2
  have HZ := Lib.hid hz
  have hk0 : 0 < k := by omega
  obtain ⟨U, hU, LF⟩ := life_upto HOK.out (m := l.take k) (by rw [HT.out]; rfl) k hk0 (by rw [List.length_take]; omega)
  rw [List.take_take, Nat.min_self, HT.out] at hU
  injection hU with hU
  subst hU
  have hpg := LF.who.2.2
  dsimp only at hpg
  clear LF
  have HY := Lib.hid hy
  clear hy hz
  have HNX := Lib.hid (oneT_next (P := P) hk0 hkl HT.out)
  rw [HY.out, HZ.out] at HNX
  have t9 : ((k : Int) == 0) = false := by simp; omega
  have ek : IntKind.i64.wrap ((k : Int) - 1) = ((k - 1 : Nat) : Int) := by rw [IntKind.wrap_i64]; omega
  have ek2 : k - 1 < n := by omega
  have HS : Hid (oneT P (l.take (k + 1)) = none) := Lib.hid (by rw [HNX.out]; unfold stepT; dsimp only; rw [if_neg kq2, if_neg kq3, if_pos kq4, if_neg (fun q => a0 q.2)])
  have HWT : Hid (wtB st = true) := Lib.hid w1
  have tx : (xa == 0) = false ∧ (xa != 0) = true := by constructor <;> (simp; omega)
  obtain ⟨tx, txn⟩ := tx
  have tk2 : (kd == 2) = false ∧ (kd != 2) = true := by constructor <;> (simp; omega)
  obtain ⟨tk2, tk2n⟩ := tk2
  have tk3 : (kd == 3) = false ∧ (kd != 3) = true := by constructor <;> (simp; omega)
  obtain ⟨tk3, tk3n⟩ := tk3
  have tk4 : (kd == 4) = true ∧ (kd != 4) = false := by constructor <;> (simp; omega)
  obtain ⟨tk4, tk4n⟩ := tk4
  clear kq2 kq3 kq4
  clear w1 a0
  have kn := Bk.new wr 41 #[.int .i64 kd, .int .i64 xi, .int .i64 xa]
  have ba := (Below.refl wr.heap.size wr).alloc (Nat.le_refl _) (.cells #[.int .i64 kd, .int .i64 xi, .int .i64 xa] 41)
  have hgb := BB.out.size
  have nR_E := Nat.ne_of_lt KR.out.lt
  have nT_E := Nat.ne_of_lt KT.out.lt
  replace BB := Lib.hid (below3 BB.out ba)
  replace KR := Lib.hid (KR.out.below ba KR.out.lt)
  replace KT := Lib.hid (KT.out.below ba KT.out.lt)
  obtain ⟨gE, hg⟩ : ∃ g, wr.heap.size = g := ⟨_, rfl⟩
  obtain ⟨V42, hW⟩ : ∃ W, wr.alloc (.cells #[.int .i64 kd, .int .i64 xi, .int .i64 xa] 41) = W := ⟨_, rfl⟩
  have KE := Lib.hid kn
  rw [hW] at BB KE KR KT
  rw [hg] at KE hgb nR_E nT_E
  have HGE := Lib.hid hg
  have HWE := Lib.hid hW
  have HBE := Lib.hid hgb
  have NR_E := Lib.hid nR_E
  have NT_E := Lib.hid nT_E
  clear hW hg kn ba hgb nR_E nT_E
  go_upto_region 5 with fail
  rw [HWE.out]
  try rw [HGE.out]
  clear HWE HGE
  skip
  clear c0 c1 c2
  obtain ⟨b2, o2, e2, hb2, d0, d1, d2⟩ := (HL.out.below BB.out).at_ (j := k - 1) (by omega)
  injection e2 with e2
  injection e2 with e3 e4 _
  subst e3 e4
  rw [show jO l (k - 1) = lk by unfold jO; rw [HY.out]] at d0
  rw [show jA l (k - 1) = li by unfold jA; rw [HY.out]] at d1
  rw [show jB l (k - 1) = la by unfold jB; rw [HY.out]] at d2
  go_upto_region 10 with fail
  have kn := Bk.new V42 41 #[.int .i64 lk, .int .i64 li, .int .i64 la]
  have ba := (Below.refl V42.heap.size V42).alloc (Nat.le_refl _) (.cells #[.int .i64 lk, .int .i64 li, .int .i64 la] 41)
  have hgb := BB.out.size
  have nR_X := Nat.ne_of_lt KR.out.lt
  have nT_X := Nat.ne_of_lt KT.out.lt
  have nE_X := Nat.ne_of_lt KE.out.lt
  replace BB := Lib.hid (below3 BB.out ba)
  replace KR := Lib.hid (KR.out.below ba KR.out.lt)
  replace KT := Lib.hid (KT.out.below ba KT.out.lt)
  replace KE := Lib.hid (KE.out.below ba KE.out.lt)
  obtain ⟨gX, hg⟩ : ∃ g, V42.heap.size = g := ⟨_, rfl⟩
  obtain ⟨V43, hW⟩ : ∃ W, V42.alloc (.cells #[.int .i64 lk, .int .i64 li, .int .i64 la] 41) = W := ⟨_, rfl⟩
  have KX := Lib.hid kn
  rw [hW] at BB KX KR KT KE
  rw [hg] at KX hgb nR_X nT_X nE_X
  have HGX := Lib.hid hg
  have HWX := Lib.hid hW
  have HBX := Lib.hid hgb
  have NR_X := Lib.hid nR_X
  have NT_X := Lib.hid nT_X
  have NE_X := Lib.hid nE_X
  clear hW hg kn ba hgb nR_X nT_X nE_X
  go_upto_region 11 with fail
  rw [HWX.out]
  try rw [HGX.out]
  clear HWX HGX
  clear d0 d1 d2 hb2
  have HH := Lib.hid fun (U : World) => (rwt_any st U).mono fun _ _ (p : RetW _ U _ _) => And.intro p.1 p.2.symm
  have HNO : Hid (oneT P l = none) := Lib.hid (oneT_none HS.out)
  obtain ⟨qT_0, qT_1, qT_2, qT_3, qT_4, qT_5, qT_6, qT_7, qT_8, qT_9, qT_10⟩ := KT.out.c11
  have lT := KT.out.lt
  obtain ⟨qE_0, qE_1, qE_2⟩ := KE.out.c3
  have lE := KE.out.lt
  obtain ⟨qX_0, qX_1, qX_2⟩ := KX.out.c3
  have lX := KX.out.lt
  go_wp2_with fail
  refine (rwt_any st _).mono ?_
  rw [HWT.out]
  rintro e U1 ⟨rfl, hw⟩
  subst hw
  go_upto_region 29 with fail
  clear qT_0 qT_1 qT_2 qT_3 qT_4 qT_5 qT_6 qT_7 qT_8 qT_9 qT_10 lT qE_0 qE_1 qE_2 lE qX_0 qX_1 qX_2 lX
  obtain ⟨qT_0, qT_1, qT_2, qT_3, qT_4, qT_5, qT_6, qT_7, qT_8, qT_9, qT_10⟩ := KT.out.c11
  have lT := KT.out.lt
  obtain ⟨qR_0, qR_1, qR_2, qR_3, qR_4, qR_5, qR_6, qR_7, qR_8, qR_9, qR_10⟩ := KR.out.c11
  have lR := KR.out.lt
  obtain ⟨fR_0, fR_1, fR_2, fR_3, fR_4, fR_5, fR_6, fR_7, fR_8, fR_9, fR_10⟩ := KR.out.f11
  have B_R := Lib.hid (below_set11 (g := w.heap.size) BB.out HBR.out (.int .i64 id) (.int .i64 tn) (.int .i64 pg) (.int .i64 pc) (.int .i64 un) (.int .i64 k0) (.int .i64 k1) (.int .i64 k2) (.int .i64 k3) (.int .i64 st) (.int .i64 rn))
  have S_R := Lib.hid (bk_set11 KR.out (.int .i64 id) (.int .i64 tn) (.int .i64 pg) (.int .i64 pc) (.int .i64 un) (.int .i64 k0) (.int .i64 k1) (.int .i64 k2) (.int .i64 k3) (.int .i64 st) (.int .i64 rn))
  unfold set11 at B_R
  go_wp2
  obtain ⟨rR_0, rR_1, rR_2, rR_3, rR_4, rR_5, rR_6, rR_7, rR_8, rR_9, rR_10⟩ := Bk.c11 (S_R.out)
  unfold set11 at rR_0 rR_1 rR_2 rR_3 rR_4 rR_5 rR_6 rR_7 rR_8 rR_9 rR_10
  exact bodyPost_ret (v := .tuple #[.agg #[.int .i64 id, .int .i64 tn, .int .i64 pg, .int .i64 pc, .int .i64 un, .int .i64 k0, .int .i64 k1, .int .i64 k2, .int .i64 k3, .int .i64 st, .int .i64 rn], .bool false]) (by simp [results, Tryd.results27, go_sem, rR_0, rR_1, rR_2, rR_3, rR_4, rR_5, rR_6, rR_7, rR_8, rR_9, rR_10]) rfl ⟨⟨id, tn, pg, pc, un, k0, k1, k2, k3, st, rn⟩, by rw [HNO.out]; rfl, (fun u hu => by rw [HNO.out] at hu; cases hu), B_R.out⟩

end Go.Proofs.YtfhlligcbpnkkaaDoor

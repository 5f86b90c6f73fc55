/-
  The walk of the law LifeMoves of layer 12.
-/
import Derived.Test.YtojaaoeflajdnaaDoorTkf
import Derived.Test.YtojaaoeflajdnaaDoorTkj
namespace Go.Proofs.YtojaaoeflajdnaaDoor
open Go.RowKit

set_option maxRecDepth 100000 in
set_option maxHeartbeats 8000000 in
theorem lmoves_any (t : Tk) (nx s a nt np : Int) (w : World) (hF : Fol w) : Calls Tryd.prog 3 #[.agg (tc t), .int .i64 nx, .int .i64 s, .int .i64 a, .int .i64 nt, .int .i64 np] w (TrueAns w) := by
  obtain ⟨id, tn, pg, pc, un, k0, k1, k2, k3, st, rn⟩ := t
  obtain ⟨⟨e1, ⟨m0, m1, m2, m3, m4, m5, m6, m7, m8, m9, m10⟩⟩, hr1⟩ : ∃ r, moveR ⟨id, tn, pg, pc, un, k0, k1, k2, k3, st, rn⟩ nx = r := ⟨_, rfl⟩
  obtain ⟨⟨e2, ⟨h0, h1, h2, h3, h4, h5, h6, h7, h8, h9, h10⟩⟩, hr2⟩ : ∃ r, keepR ⟨id, tn, pg, pc, un, k0, k1, k2, k3, st, rn⟩ s a = r := ⟨_, rfl⟩
  obtain ⟨⟨e3, ⟨n0, n1, n2, n3, n4, n5, n6, n7, n8, n9, n10⟩⟩, hr3⟩ : ∃ r, newR a nt np = r := ⟨_, rfl⟩
  have S1 := Lib.hid (fun (W : World) (h : Fol W) => hr1 ▸ move_any ⟨id, tn, pg, pc, un, k0, k1, k2, k3, st, rn⟩ nx W h)
  have S2 := Lib.hid (fun (W : World) => hr1 ▸ rmove_any ⟨id, tn, pg, pc, un, k0, k1, k2, k3, st, rn⟩ nx W)
  have S3 := Lib.hid (fun (W : World) => hr2 ▸ keep_any ⟨id, tn, pg, pc, un, k0, k1, k2, k3, st, rn⟩ s a W)
  have S4 := Lib.hid (fun (W : World) => hr2 ▸ rkeep_any ⟨id, tn, pg, pc, un, k0, k1, k2, k3, st, rn⟩ s a W)
  have S5 := Lib.hid (fun (W : World) => hr3 ▸ new_any a nt np W)
  have S6 := Lib.hid (fun (W : World) => hr3 ▸ rnew_any a nt np W)
  obtain ⟨ck, hck⟩ : ∃ r, chkE ⟨id, tn, pg, pc, un, k0, k1, k2, k3, st, rn⟩ = r := ⟨_, rfl⟩
  have S7 := Lib.hid (fun (W : World) => hck ▸ chk_any ⟨id, tn, pg, pc, un, k0, k1, k2, k3, st, rn⟩ W)
  have S8 := Lib.hid (fun (W : World) => hck ▸ rchk_any ⟨id, tn, pg, pc, un, k0, k1, k2, k3, st, rn⟩ W)
  unfold tc at S1 S2 S3 S4 S5 S6 S7 S8 ⊢
  dsimp only at S1 S2 S3 S4 S5 S6 S7 S8 ⊢
  have E1 := eql_task ⟨m0, m1, m2, m3, m4, m5, m6, m7, m8, m9, m10⟩
  have E2 := eql_task ⟨h0, h1, h2, h3, h4, h5, h6, h7, h8, h9, h10⟩
  have E3 := eql_task ⟨n0, n1, n2, n3, n4, n5, n6, n7, n8, n9, n10⟩
  unfold tc at E1 E2 E3
  dsimp only at E1 E2 E3
  have HE1 := Lib.hid E1
  have HE2 := Lib.hid E2
  have HE3 := Lib.hid E3
  have kb := Bk.new w 24 #[.int .i64 id, .int .i64 tn, .int .i64 pg, .int .i64 pc, .int .i64 un, .int .i64 k0, .int .i64 k1, .int .i64 k2, .int .i64 k3, .int .i64 st, .int .i64 rn]
  have bb := (Below.refl w.heap.size w).alloc (Nat.le_refl _) (.cells #[.int .i64 id, .int .i64 tn, .int .i64 pg, .int .i64 pc, .int .i64 un, .int .i64 k0, .int .i64 k1, .int .i64 k2, .int .i64 k3, .int .i64 st, .int .i64 rn] 24)
  obtain ⟨V, hV⟩ : ∃ V, w.alloc (.cells #[.int .i64 id, .int .i64 tn, .int .i64 pg, .int .i64 pc, .int .i64 un, .int .i64 k0, .int .i64 k1, .int .i64 k2, .int .i64 k3, .int .i64 st, .int .i64 rn] 24) = V := ⟨_, rfl⟩
  have hf := hF.le bb
  rw [hV] at kb bb hf
  have HV := Lib.hid hV
  have KT := Lib.hid kb
  have BB := Lib.hid bb
  have HF := Lib.hid hf
  clear hr1 hr2 hr3 hck E1 E2 E3 kb bb hf hV hF
  go_enter Tryd.func3, Tryd.ntmps3
  go_upto_region 1 with fail
  rw [HV.out]
  clear HV
  go_wp2_with fail
  refine (live_any _ HF.out).mono ?_
  rintro e w1 ⟨rfl, b1⟩
  replace BB := Lib.hid (below3 BB.out b1)
  replace KT := Lib.hid (KT.out.below b1 KT.out.lt)
  replace HF := Lib.hid (HF.out.le b1)
  clear b1
  obtain ⟨q0, q1, q2, q3, q4, q5, q6, q7, q8, q9, q10⟩ := KT.out.c11
  have lq := KT.out.lt
  go_wp2_with fail
  refine (S1.out _ HF.out).mono ?_
  rintro e U1 ⟨rfl, b⟩
  clear q0 q1 q2 q3 q4 q5 q6 q7 q8 q9 q10 lq
  replace BB := Lib.hid (below3 BB.out b)
  replace KT := Lib.hid (KT.out.below b KT.out.lt)
  replace HF := Lib.hid (HF.out.le b)
  clear b
  have kn := Bk.new U1 24 #[.int .i64 m0, .int .i64 m1, .int .i64 m2, .int .i64 m3, .int .i64 m4, .int .i64 m5, .int .i64 m6, .int .i64 m7, .int .i64 m8, .int .i64 m9, .int .i64 m10]
  have ba := (Below.refl U1.heap.size U1).alloc (Nat.le_refl _) (.cells #[.int .i64 m0, .int .i64 m1, .int .i64 m2, .int .i64 m3, .int .i64 m4, .int .i64 m5, .int .i64 m6, .int .i64 m7, .int .i64 m8, .int .i64 m9, .int .i64 m10] 24)
  replace BB := Lib.hid (below3 BB.out ba)
  replace KT := Lib.hid (KT.out.below ba KT.out.lt)
  replace HF := Lib.hid (HF.out.le ba)
  obtain ⟨ga, hg⟩ : ∃ g, U1.heap.size = g := ⟨_, rfl⟩
  obtain ⟨W1, hW⟩ : ∃ W, U1.alloc (.cells #[.int .i64 m0, .int .i64 m1, .int .i64 m2, .int .i64 m3, .int .i64 m4, .int .i64 m5, .int .i64 m6, .int .i64 m7, .int .i64 m8, .int .i64 m9, .int .i64 m10] 24) = W := ⟨_, rfl⟩
  have Ka := Lib.hid kn
  rw [hW] at BB KT HF Ka
  rw [hg] at Ka
  have HW := Lib.hid hW
  have HG := Lib.hid hg
  clear hW hg kn ba
  go_upto_region 5 with fail
  rw [HW.out]
  try rw [HG.out]
  clear HW HG
  obtain ⟨q0, q1, q2, q3, q4, q5, q6, q7, q8, q9, q10⟩ := KT.out.c11
  have lq := KT.out.lt
  go_wp2_with fail
  refine (S2.out _).mono ?_
  rintro e U2 ⟨rfl, b⟩
  clear q0 q1 q2 q3 q4 q5 q6 q7 q8 q9 q10 lq
  replace BB := Lib.hid (below3 BB.out b)
  replace KT := Lib.hid (KT.out.below b KT.out.lt)
  replace HF := Lib.hid (HF.out.le b)
  replace Ka := Lib.hid (Ka.out.below b Ka.out.lt)
  clear b
  have kn := Bk.new U2 24 #[.int .i64 m0, .int .i64 m1, .int .i64 m2, .int .i64 m3, .int .i64 m4, .int .i64 m5, .int .i64 m6, .int .i64 m7, .int .i64 m8, .int .i64 m9, .int .i64 m10]
  have ba := (Below.refl U2.heap.size U2).alloc (Nat.le_refl _) (.cells #[.int .i64 m0, .int .i64 m1, .int .i64 m2, .int .i64 m3, .int .i64 m4, .int .i64 m5, .int .i64 m6, .int .i64 m7, .int .i64 m8, .int .i64 m9, .int .i64 m10] 24)
  replace BB := Lib.hid (below3 BB.out ba)
  replace KT := Lib.hid (KT.out.below ba KT.out.lt)
  replace HF := Lib.hid (HF.out.le ba)
  replace Ka := Lib.hid (Ka.out.below ba Ka.out.lt)
  obtain ⟨gb, hg⟩ : ∃ g, U2.heap.size = g := ⟨_, rfl⟩
  obtain ⟨W2, hW⟩ : ∃ W, U2.alloc (.cells #[.int .i64 m0, .int .i64 m1, .int .i64 m2, .int .i64 m3, .int .i64 m4, .int .i64 m5, .int .i64 m6, .int .i64 m7, .int .i64 m8, .int .i64 m9, .int .i64 m10] 24) = W := ⟨_, rfl⟩
  have Kb := Lib.hid kn
  rw [hW] at BB KT HF Ka Kb
  rw [hg] at Kb
  have HW := Lib.hid hW
  have HG := Lib.hid hg
  clear hW hg kn ba
  go_upto_region 6 with fail
  rw [HW.out]
  try rw [HG.out]
  clear HW HG
  obtain ⟨q0, q1, q2, q3, q4, q5, q6, q7, q8, q9, q10⟩ := KT.out.c11
  have lq := KT.out.lt
  go_wp2_with fail
  refine (S3.out _).mono ?_
  rintro e U3 ⟨rfl, b⟩
  clear q0 q1 q2 q3 q4 q5 q6 q7 q8 q9 q10 lq
  replace BB := Lib.hid (below3 BB.out b)
  replace KT := Lib.hid (KT.out.below b KT.out.lt)
  replace HF := Lib.hid (HF.out.le b)
  replace Ka := Lib.hid (Ka.out.below b Ka.out.lt)
  replace Kb := Lib.hid (Kb.out.below b Kb.out.lt)
  clear b
  have kn := Bk.new U3 24 #[.int .i64 h0, .int .i64 h1, .int .i64 h2, .int .i64 h3, .int .i64 h4, .int .i64 h5, .int .i64 h6, .int .i64 h7, .int .i64 h8, .int .i64 h9, .int .i64 h10]
  have ba := (Below.refl U3.heap.size U3).alloc (Nat.le_refl _) (.cells #[.int .i64 h0, .int .i64 h1, .int .i64 h2, .int .i64 h3, .int .i64 h4, .int .i64 h5, .int .i64 h6, .int .i64 h7, .int .i64 h8, .int .i64 h9, .int .i64 h10] 24)
  replace BB := Lib.hid (below3 BB.out ba)
  replace KT := Lib.hid (KT.out.below ba KT.out.lt)
  replace HF := Lib.hid (HF.out.le ba)
  replace Ka := Lib.hid (Ka.out.below ba Ka.out.lt)
  replace Kb := Lib.hid (Kb.out.below ba Kb.out.lt)
  obtain ⟨gc, hg⟩ : ∃ g, U3.heap.size = g := ⟨_, rfl⟩
  obtain ⟨W3, hW⟩ : ∃ W, U3.alloc (.cells #[.int .i64 h0, .int .i64 h1, .int .i64 h2, .int .i64 h3, .int .i64 h4, .int .i64 h5, .int .i64 h6, .int .i64 h7, .int .i64 h8, .int .i64 h9, .int .i64 h10] 24) = W := ⟨_, rfl⟩
  have Kc := Lib.hid kn
  rw [hW] at BB KT HF Ka Kb Kc
  rw [hg] at Kc
  have HW := Lib.hid hW
  have HG := Lib.hid hg
  clear hW hg kn ba
  go_upto_region 7 with fail
  rw [HW.out]
  try rw [HG.out]
  clear HW HG
  obtain ⟨q0, q1, q2, q3, q4, q5, q6, q7, q8, q9, q10⟩ := KT.out.c11
  have lq := KT.out.lt
  go_wp2_with fail
  refine (S4.out _).mono ?_
  rintro e U4 ⟨rfl, b⟩
  clear q0 q1 q2 q3 q4 q5 q6 q7 q8 q9 q10 lq
  replace BB := Lib.hid (below3 BB.out b)
  replace KT := Lib.hid (KT.out.below b KT.out.lt)
  replace HF := Lib.hid (HF.out.le b)
  replace Ka := Lib.hid (Ka.out.below b Ka.out.lt)
  replace Kb := Lib.hid (Kb.out.below b Kb.out.lt)
  replace Kc := Lib.hid (Kc.out.below b Kc.out.lt)
  clear b
  have kn := Bk.new U4 24 #[.int .i64 h0, .int .i64 h1, .int .i64 h2, .int .i64 h3, .int .i64 h4, .int .i64 h5, .int .i64 h6, .int .i64 h7, .int .i64 h8, .int .i64 h9, .int .i64 h10]
  have ba := (Below.refl U4.heap.size U4).alloc (Nat.le_refl _) (.cells #[.int .i64 h0, .int .i64 h1, .int .i64 h2, .int .i64 h3, .int .i64 h4, .int .i64 h5, .int .i64 h6, .int .i64 h7, .int .i64 h8, .int .i64 h9, .int .i64 h10] 24)
  replace BB := Lib.hid (below3 BB.out ba)
  replace KT := Lib.hid (KT.out.below ba KT.out.lt)
  replace HF := Lib.hid (HF.out.le ba)
  replace Ka := Lib.hid (Ka.out.below ba Ka.out.lt)
  replace Kb := Lib.hid (Kb.out.below ba Kb.out.lt)
  replace Kc := Lib.hid (Kc.out.below ba Kc.out.lt)
  obtain ⟨gd, hg⟩ : ∃ g, U4.heap.size = g := ⟨_, rfl⟩
  obtain ⟨W4, hW⟩ : ∃ W, U4.alloc (.cells #[.int .i64 h0, .int .i64 h1, .int .i64 h2, .int .i64 h3, .int .i64 h4, .int .i64 h5, .int .i64 h6, .int .i64 h7, .int .i64 h8, .int .i64 h9, .int .i64 h10] 24) = W := ⟨_, rfl⟩
  have Kd := Lib.hid kn
  rw [hW] at BB KT HF Ka Kb Kc Kd
  rw [hg] at Kd
  have HW := Lib.hid hW
  have HG := Lib.hid hg
  clear hW hg kn ba
  go_upto_region 8 with fail
  rw [HW.out]
  try rw [HG.out]
  clear HW HG
  go_wp2_with fail
  refine (S5.out _).mono ?_
  rintro e U5 ⟨rfl, b⟩
  replace BB := Lib.hid (below3 BB.out b)
  replace KT := Lib.hid (KT.out.below b KT.out.lt)
  replace HF := Lib.hid (HF.out.le b)
  replace Ka := Lib.hid (Ka.out.below b Ka.out.lt)
  replace Kb := Lib.hid (Kb.out.below b Kb.out.lt)
  replace Kc := Lib.hid (Kc.out.below b Kc.out.lt)
  replace Kd := Lib.hid (Kd.out.below b Kd.out.lt)
  clear b
  have kn := Bk.new U5 24 #[.int .i64 n0, .int .i64 n1, .int .i64 n2, .int .i64 n3, .int .i64 n4, .int .i64 n5, .int .i64 n6, .int .i64 n7, .int .i64 n8, .int .i64 n9, .int .i64 n10]
  have ba := (Below.refl U5.heap.size U5).alloc (Nat.le_refl _) (.cells #[.int .i64 n0, .int .i64 n1, .int .i64 n2, .int .i64 n3, .int .i64 n4, .int .i64 n5, .int .i64 n6, .int .i64 n7, .int .i64 n8, .int .i64 n9, .int .i64 n10] 24)
  replace BB := Lib.hid (below3 BB.out ba)
  replace KT := Lib.hid (KT.out.below ba KT.out.lt)
  replace HF := Lib.hid (HF.out.le ba)
  replace Ka := Lib.hid (Ka.out.below ba Ka.out.lt)
  replace Kb := Lib.hid (Kb.out.below ba Kb.out.lt)
  replace Kc := Lib.hid (Kc.out.below ba Kc.out.lt)
  replace Kd := Lib.hid (Kd.out.below ba Kd.out.lt)
  obtain ⟨gx, hg⟩ : ∃ g, U5.heap.size = g := ⟨_, rfl⟩
  obtain ⟨W5, hW⟩ : ∃ W, U5.alloc (.cells #[.int .i64 n0, .int .i64 n1, .int .i64 n2, .int .i64 n3, .int .i64 n4, .int .i64 n5, .int .i64 n6, .int .i64 n7, .int .i64 n8, .int .i64 n9, .int .i64 n10] 24) = W := ⟨_, rfl⟩
  have Kx := Lib.hid kn
  rw [hW] at BB KT HF Ka Kb Kc Kd Kx
  rw [hg] at Kx
  have HW := Lib.hid hW
  have HG := Lib.hid hg
  clear hW hg kn ba
  go_upto_region 9 with fail
  rw [HW.out]
  try rw [HG.out]
  clear HW HG
  go_wp2_with fail
  refine (S6.out _).mono ?_
  rintro e U6 ⟨rfl, b⟩
  replace BB := Lib.hid (below3 BB.out b)
  replace KT := Lib.hid (KT.out.below b KT.out.lt)
  replace HF := Lib.hid (HF.out.le b)
  replace Ka := Lib.hid (Ka.out.below b Ka.out.lt)
  replace Kb := Lib.hid (Kb.out.below b Kb.out.lt)
  replace Kc := Lib.hid (Kc.out.below b Kc.out.lt)
  replace Kd := Lib.hid (Kd.out.below b Kd.out.lt)
  replace Kx := Lib.hid (Kx.out.below b Kx.out.lt)
  clear b
  have kn := Bk.new U6 24 #[.int .i64 n0, .int .i64 n1, .int .i64 n2, .int .i64 n3, .int .i64 n4, .int .i64 n5, .int .i64 n6, .int .i64 n7, .int .i64 n8, .int .i64 n9, .int .i64 n10]
  have ba := (Below.refl U6.heap.size U6).alloc (Nat.le_refl _) (.cells #[.int .i64 n0, .int .i64 n1, .int .i64 n2, .int .i64 n3, .int .i64 n4, .int .i64 n5, .int .i64 n6, .int .i64 n7, .int .i64 n8, .int .i64 n9, .int .i64 n10] 24)
  replace BB := Lib.hid (below3 BB.out ba)
  replace KT := Lib.hid (KT.out.below ba KT.out.lt)
  replace HF := Lib.hid (HF.out.le ba)
  replace Ka := Lib.hid (Ka.out.below ba Ka.out.lt)
  replace Kb := Lib.hid (Kb.out.below ba Kb.out.lt)
  replace Kc := Lib.hid (Kc.out.below ba Kc.out.lt)
  replace Kd := Lib.hid (Kd.out.below ba Kd.out.lt)
  replace Kx := Lib.hid (Kx.out.below ba Kx.out.lt)
  obtain ⟨gy, hg⟩ : ∃ g, U6.heap.size = g := ⟨_, rfl⟩
  obtain ⟨W6, hW⟩ : ∃ W, U6.alloc (.cells #[.int .i64 n0, .int .i64 n1, .int .i64 n2, .int .i64 n3, .int .i64 n4, .int .i64 n5, .int .i64 n6, .int .i64 n7, .int .i64 n8, .int .i64 n9, .int .i64 n10] 24) = W := ⟨_, rfl⟩
  have Ky := Lib.hid kn
  rw [hW] at BB KT HF Ka Kb Kc Kd Kx Ky
  rw [hg] at Ky
  have HW := Lib.hid hW
  have HG := Lib.hid hg
  clear hW hg kn ba
  go_upto_region 10 with fail
  rw [HW.out]
  try rw [HG.out]
  clear HW HG
  go_wp2_with fail
  refine calm_region (S := fun U => Below W6.heap.size W6 U) (by kernel_rfl) (Below.refl _ _).drew ?_
  refine calm_to (i := 0) (t := 69) (v := .bool true) rfl rfl (by kernel_rfl) (by kernel_rfl) (by kernel_rfl) (fun _ _ _ h => h) (calm_move (by kernel_rfl) (.tmp 13) (.inl rfl) rfl) ?_
  simp only [List.setIfInBounds_toArray, List.set_cons_zero, List.set_cons_succ]
  refine calm_to (i := 1) (t := 70) (v := .bool true) rfl rfl (by kernel_rfl) (by kernel_rfl) (by kernel_rfl) (fun _ _ _ h => h) (calm_move (by kernel_rfl) (.tmp 69) (.inl rfl) rfl) ?_
  simp only [List.setIfInBounds_toArray, List.set_cons_zero, List.set_cons_succ]
  refine calm_to (i := 2) (t := 71) (v := .agg #[.int .i64 m0, .int .i64 m1, .int .i64 m2, .int .i64 m3, .int .i64 m4, .int .i64 m5, .int .i64 m6, .int .i64 m7, .int .i64 m8, .int .i64 m9, .int .i64 m10]) rfl rfl (by kernel_rfl) (by kernel_rfl) (by kernel_rfl) (fun _ _ _ h => h) (calm_of (by kernel_rfl) (fun U hU => by obtain ⟨q0, q1, q2, q3, q4, q5, q6, q7, q8, q9, q10⟩ := (Ka.out.below hU Ka.out.lt).c11; have ql := (Ka.out.below hU Ka.out.lt).lt; go_simp)) ?_
  simp only [List.setIfInBounds_toArray, List.set_cons_zero, List.set_cons_succ]
  refine calm_to (i := 3) (t := 72) (v := .agg #[.int .i64 m0, .int .i64 m1, .int .i64 m2, .int .i64 m3, .int .i64 m4, .int .i64 m5, .int .i64 m6, .int .i64 m7, .int .i64 m8, .int .i64 m9, .int .i64 m10]) rfl rfl (by kernel_rfl) (by kernel_rfl) (by kernel_rfl) (fun _ _ _ h => h) (calm_of (by kernel_rfl) (fun U hU => by obtain ⟨q0, q1, q2, q3, q4, q5, q6, q7, q8, q9, q10⟩ := (Kb.out.below hU Kb.out.lt).c11; have ql := (Kb.out.below hU Kb.out.lt).lt; go_simp)) ?_
  simp only [List.setIfInBounds_toArray, List.set_cons_zero, List.set_cons_succ]
  refine calm_to (i := 4) (t := 73) (v := .bool true) rfl rfl (by kernel_rfl) (by kernel_rfl) (by kernel_rfl) (fun _ _ _ h => h) (calm_of (by kernel_rfl) (fun U hU => by have q1 := HE1.out; have q2 := guard_task .eql; go_simp)) ?_
  simp only [List.setIfInBounds_toArray, List.set_cons_zero, List.set_cons_succ]
  refine calm_to (i := 5) (t := 74) (v := .bool true) rfl rfl (by kernel_rfl) (by kernel_rfl) (by kernel_rfl) (fun _ _ _ h => h) (calm_pick (by kernel_rfl) (.tmp 70) (.tmp 73) (.const (.bool false)) rfl true rfl rfl) ?_
  simp only [List.setIfInBounds_toArray, List.set_cons_zero, List.set_cons_succ]
  refine calm_to (i := 6) (t := 75) (v := .bool true) rfl rfl (by kernel_rfl) (by kernel_rfl) (by kernel_rfl) (fun _ _ _ h => h) (calm_move (by kernel_rfl) (.tmp 74) (.inl rfl) rfl) ?_
  simp only [List.setIfInBounds_toArray, List.set_cons_zero, List.set_cons_succ]
  refine calm_to (i := 7) (t := 76) (v := .int .i64 e1) rfl rfl (by kernel_rfl) (by kernel_rfl) (by kernel_rfl) (fun _ _ _ h => h) (calm_move (by kernel_rfl) (.tmp 15) (.inl rfl) rfl) ?_
  simp only [List.setIfInBounds_toArray, List.set_cons_zero, List.set_cons_succ]
  refine calm_to (i := 8) (t := 77) (v := .int .i64 e1) rfl rfl (by kernel_rfl) (by kernel_rfl) (by kernel_rfl) (fun _ _ _ h => h) (calm_move (by kernel_rfl) (.tmp 17) (.inl rfl) rfl) ?_
  simp only [List.setIfInBounds_toArray, List.set_cons_zero, List.set_cons_succ]
  refine calm_to (i := 9) (t := 78) (v := .bool true) rfl rfl (by kernel_rfl) (by kernel_rfl) (by kernel_rfl) (fun _ _ _ h => h) (calm_of (by kernel_rfl) (fun U hU => by have q1 : ((e1 : Int) == e1) = true := (by simp); go_simp)) ?_
  simp only [List.setIfInBounds_toArray, List.set_cons_zero, List.set_cons_succ]
  refine calm_to (i := 10) (t := 79) (v := .bool true) rfl rfl (by kernel_rfl) (by kernel_rfl) (by kernel_rfl) (fun _ _ _ h => h) (calm_pick (by kernel_rfl) (.tmp 75) (.tmp 78) (.const (.bool false)) rfl true rfl rfl) ?_
  simp only [List.setIfInBounds_toArray, List.set_cons_zero, List.set_cons_succ]
  refine calm_to (i := 11) (t := 80) (v := .bool true) rfl rfl (by kernel_rfl) (by kernel_rfl) (by kernel_rfl) (fun _ _ _ h => h) (calm_move (by kernel_rfl) (.tmp 79) (.inl rfl) rfl) ?_
  simp only [List.setIfInBounds_toArray, List.set_cons_zero, List.set_cons_succ]
  refine calm_to (i := 12) (t := 81) (v := .agg #[.int .i64 h0, .int .i64 h1, .int .i64 h2, .int .i64 h3, .int .i64 h4, .int .i64 h5, .int .i64 h6, .int .i64 h7, .int .i64 h8, .int .i64 h9, .int .i64 h10]) rfl rfl (by kernel_rfl) (by kernel_rfl) (by kernel_rfl) (fun _ _ _ h => h) (calm_of (by kernel_rfl) (fun U hU => by obtain ⟨q0, q1, q2, q3, q4, q5, q6, q7, q8, q9, q10⟩ := (Kc.out.below hU Kc.out.lt).c11; have ql := (Kc.out.below hU Kc.out.lt).lt; go_simp)) ?_
  simp only [List.setIfInBounds_toArray, List.set_cons_zero, List.set_cons_succ]
  refine calm_to (i := 13) (t := 82) (v := .agg #[.int .i64 h0, .int .i64 h1, .int .i64 h2, .int .i64 h3, .int .i64 h4, .int .i64 h5, .int .i64 h6, .int .i64 h7, .int .i64 h8, .int .i64 h9, .int .i64 h10]) rfl rfl (by kernel_rfl) (by kernel_rfl) (by kernel_rfl) (fun _ _ _ h => h) (calm_of (by kernel_rfl) (fun U hU => by obtain ⟨q0, q1, q2, q3, q4, q5, q6, q7, q8, q9, q10⟩ := (Kd.out.below hU Kd.out.lt).c11; have ql := (Kd.out.below hU Kd.out.lt).lt; go_simp)) ?_
  simp only [List.setIfInBounds_toArray, List.set_cons_zero, List.set_cons_succ]
  refine calm_to (i := 14) (t := 83) (v := .bool true) rfl rfl (by kernel_rfl) (by kernel_rfl) (by kernel_rfl) (fun _ _ _ h => h) (calm_of (by kernel_rfl) (fun U hU => by have q1 := HE2.out; have q2 := guard_task .eql; go_simp)) ?_
  simp only [List.setIfInBounds_toArray, List.set_cons_zero, List.set_cons_succ]
  refine calm_to (i := 15) (t := 84) (v := .bool true) rfl rfl (by kernel_rfl) (by kernel_rfl) (by kernel_rfl) (fun _ _ _ h => h) (calm_pick (by kernel_rfl) (.tmp 80) (.tmp 83) (.const (.bool false)) rfl true rfl rfl) ?_
  simp only [List.setIfInBounds_toArray, List.set_cons_zero, List.set_cons_succ]
  refine calm_to (i := 16) (t := 85) (v := .bool true) rfl rfl (by kernel_rfl) (by kernel_rfl) (by kernel_rfl) (fun _ _ _ h => h) (calm_move (by kernel_rfl) (.tmp 84) (.inl rfl) rfl) ?_
  simp only [List.setIfInBounds_toArray, List.set_cons_zero, List.set_cons_succ]
  refine calm_to (i := 17) (t := 86) (v := .int .i64 e2) rfl rfl (by kernel_rfl) (by kernel_rfl) (by kernel_rfl) (fun _ _ _ h => h) (calm_move (by kernel_rfl) (.tmp 19) (.inl rfl) rfl) ?_
  simp only [List.setIfInBounds_toArray, List.set_cons_zero, List.set_cons_succ]
  refine calm_to (i := 18) (t := 87) (v := .int .i64 e2) rfl rfl (by kernel_rfl) (by kernel_rfl) (by kernel_rfl) (fun _ _ _ h => h) (calm_move (by kernel_rfl) (.tmp 21) (.inl rfl) rfl) ?_
  simp only [List.setIfInBounds_toArray, List.set_cons_zero, List.set_cons_succ]
  refine calm_to (i := 19) (t := 88) (v := .bool true) rfl rfl (by kernel_rfl) (by kernel_rfl) (by kernel_rfl) (fun _ _ _ h => h) (calm_of (by kernel_rfl) (fun U hU => by have q1 : ((e2 : Int) == e2) = true := (by simp); go_simp)) ?_
  simp only [List.setIfInBounds_toArray, List.set_cons_zero, List.set_cons_succ]
  refine calm_to (i := 20) (t := 89) (v := .bool true) rfl rfl (by kernel_rfl) (by kernel_rfl) (by kernel_rfl) (fun _ _ _ h => h) (calm_pick (by kernel_rfl) (.tmp 85) (.tmp 88) (.const (.bool false)) rfl true rfl rfl) ?_
  simp only [List.setIfInBounds_toArray, List.set_cons_zero, List.set_cons_succ]
  refine calm_to (i := 21) (t := 90) (v := .bool true) rfl rfl (by kernel_rfl) (by kernel_rfl) (by kernel_rfl) (fun _ _ _ h => h) (calm_move (by kernel_rfl) (.tmp 89) (.inl rfl) rfl) ?_
  simp only [List.setIfInBounds_toArray, List.set_cons_zero, List.set_cons_succ]
  refine calm_to (i := 22) (t := 91) (v := .agg #[.int .i64 n0, .int .i64 n1, .int .i64 n2, .int .i64 n3, .int .i64 n4, .int .i64 n5, .int .i64 n6, .int .i64 n7, .int .i64 n8, .int .i64 n9, .int .i64 n10]) rfl rfl (by kernel_rfl) (by kernel_rfl) (by kernel_rfl) (fun _ _ _ h => h) (calm_of (by kernel_rfl) (fun U hU => by obtain ⟨q0, q1, q2, q3, q4, q5, q6, q7, q8, q9, q10⟩ := (Kx.out.below hU Kx.out.lt).c11; have ql := (Kx.out.below hU Kx.out.lt).lt; go_simp)) ?_
  simp only [List.setIfInBounds_toArray, List.set_cons_zero, List.set_cons_succ]
  refine calm_to (i := 23) (t := 92) (v := .agg #[.int .i64 n0, .int .i64 n1, .int .i64 n2, .int .i64 n3, .int .i64 n4, .int .i64 n5, .int .i64 n6, .int .i64 n7, .int .i64 n8, .int .i64 n9, .int .i64 n10]) rfl rfl (by kernel_rfl) (by kernel_rfl) (by kernel_rfl) (fun _ _ _ h => h) (calm_of (by kernel_rfl) (fun U hU => by obtain ⟨q0, q1, q2, q3, q4, q5, q6, q7, q8, q9, q10⟩ := (Ky.out.below hU Ky.out.lt).c11; have ql := (Ky.out.below hU Ky.out.lt).lt; go_simp)) ?_
  simp only [List.setIfInBounds_toArray, List.set_cons_zero, List.set_cons_succ]
  refine calm_to (i := 24) (t := 93) (v := .bool true) rfl rfl (by kernel_rfl) (by kernel_rfl) (by kernel_rfl) (fun _ _ _ h => h) (calm_of (by kernel_rfl) (fun U hU => by have q1 := HE3.out; have q2 := guard_task .eql; go_simp)) ?_
  simp only [List.setIfInBounds_toArray, List.set_cons_zero, List.set_cons_succ]
  refine calm_to (i := 25) (t := 94) (v := .bool true) rfl rfl (by kernel_rfl) (by kernel_rfl) (by kernel_rfl) (fun _ _ _ h => h) (calm_pick (by kernel_rfl) (.tmp 90) (.tmp 93) (.const (.bool false)) rfl true rfl rfl) ?_
  simp only [List.setIfInBounds_toArray, List.set_cons_zero, List.set_cons_succ]
  refine calm_to (i := 26) (t := 95) (v := .bool true) rfl rfl (by kernel_rfl) (by kernel_rfl) (by kernel_rfl) (fun _ _ _ h => h) (calm_move (by kernel_rfl) (.tmp 94) (.inl rfl) rfl) ?_
  simp only [List.setIfInBounds_toArray, List.set_cons_zero, List.set_cons_succ]
  refine calm_to (i := 27) (t := 96) (v := .int .i64 e3) rfl rfl (by kernel_rfl) (by kernel_rfl) (by kernel_rfl) (fun _ _ _ h => h) (calm_move (by kernel_rfl) (.tmp 23) (.inl rfl) rfl) ?_
  simp only [List.setIfInBounds_toArray, List.set_cons_zero, List.set_cons_succ]
  refine calm_to (i := 28) (t := 97) (v := .int .i64 e3) rfl rfl (by kernel_rfl) (by kernel_rfl) (by kernel_rfl) (fun _ _ _ h => h) (calm_move (by kernel_rfl) (.tmp 25) (.inl rfl) rfl) ?_
  simp only [List.setIfInBounds_toArray, List.set_cons_zero, List.set_cons_succ]
  refine calm_to (i := 29) (t := 98) (v := .bool true) rfl rfl (by kernel_rfl) (by kernel_rfl) (by kernel_rfl) (fun _ _ _ h => h) (calm_of (by kernel_rfl) (fun U hU => by have q1 : ((e3 : Int) == e3) = true := (by simp); go_simp)) ?_
  simp only [List.setIfInBounds_toArray, List.set_cons_zero, List.set_cons_succ]
  refine calm_to (i := 30) (t := 99) (v := .bool true) rfl rfl (by kernel_rfl) (by kernel_rfl) (by kernel_rfl) (fun _ _ _ h => h) (calm_pick (by kernel_rfl) (.tmp 95) (.tmp 98) (.const (.bool false)) rfl true rfl rfl) ?_
  simp only [List.setIfInBounds_toArray, List.set_cons_zero, List.set_cons_succ]
  refine calm_to (i := 31) (t := 100) (v := .bool true) rfl rfl (by kernel_rfl) (by kernel_rfl) (by kernel_rfl) (fun _ _ _ h => h) (calm_move (by kernel_rfl) (.tmp 99) (.inl rfl) rfl) ?_
  simp only [List.setIfInBounds_toArray, List.set_cons_zero, List.set_cons_succ]
  refine calm_to (i := 32) (t := 101) (v := .agg #[.int .i64 id, .int .i64 tn, .int .i64 pg, .int .i64 pc, .int .i64 un, .int .i64 k0, .int .i64 k1, .int .i64 k2, .int .i64 k3, .int .i64 st, .int .i64 rn]) rfl rfl (by kernel_rfl) (by kernel_rfl) (by kernel_rfl) (fun _ _ _ h => h) (calm_of (by kernel_rfl) (fun U hU => by obtain ⟨q0, q1, q2, q3, q4, q5, q6, q7, q8, q9, q10⟩ := (KT.out.below hU KT.out.lt).c11; have ql := (KT.out.below hU KT.out.lt).lt; go_simp)) ?_
  simp only [List.setIfInBounds_toArray, List.set_cons_zero, List.set_cons_succ]
  refine calm_to (i := 33) (t := 102) (v := .int .i64 ck) rfl rfl (by kernel_rfl) (by kernel_rfl) (by kernel_rfl) (fun _ _ _ h => h) (calm_call1 (by kernel_rfl) 16 (.tmp 101) #[24] rfl (enters_of Tryd.func16 (by kernel_rfl) rfl) (.agg #[.int .i64 id, .int .i64 tn, .int .i64 pg, .int .i64 pc, .int .i64 un, .int .i64 k0, .int .i64 k1, .int .i64 k2, .int .i64 k3, .int .i64 st, .int .i64 rn]) rfl (fun U hU => (S7.out U).mono fun _ _ q => ⟨q.1, below3 hU q.2⟩)) ?_
  simp only [List.setIfInBounds_toArray, List.set_cons_zero, List.set_cons_succ]
  refine calm_to (i := 34) (t := 103) (v := .agg #[.int .i64 id, .int .i64 tn, .int .i64 pg, .int .i64 pc, .int .i64 un, .int .i64 k0, .int .i64 k1, .int .i64 k2, .int .i64 k3, .int .i64 st, .int .i64 rn]) rfl rfl (by kernel_rfl) (by kernel_rfl) (by kernel_rfl) (fun _ _ _ h => h) (calm_of (by kernel_rfl) (fun U hU => by obtain ⟨q0, q1, q2, q3, q4, q5, q6, q7, q8, q9, q10⟩ := (KT.out.below hU KT.out.lt).c11; have ql := (KT.out.below hU KT.out.lt).lt; go_simp)) ?_
  simp only [List.setIfInBounds_toArray, List.set_cons_zero, List.set_cons_succ]
  refine calm_to (i := 35) (t := 104) (v := .int .i64 ck) rfl rfl (by kernel_rfl) (by kernel_rfl) (by kernel_rfl) (fun _ _ _ h => h) (calm_call1 (by kernel_rfl) 17 (.tmp 103) #[24] rfl (enters_of Tryd.func17 (by kernel_rfl) rfl) (.agg #[.int .i64 id, .int .i64 tn, .int .i64 pg, .int .i64 pc, .int .i64 un, .int .i64 k0, .int .i64 k1, .int .i64 k2, .int .i64 k3, .int .i64 st, .int .i64 rn]) rfl (fun U hU => (S8.out U).mono fun _ _ q => ⟨q.1, below3 hU q.2⟩)) ?_
  simp only [List.setIfInBounds_toArray, List.set_cons_zero, List.set_cons_succ]
  refine calm_to (i := 36) (t := 105) (v := .bool true) rfl rfl (by kernel_rfl) (by kernel_rfl) (by kernel_rfl) (fun _ _ _ h => h) (calm_of (by kernel_rfl) (fun U hU => by have q1 : ((ck : Int) == ck) = true := (by simp); go_simp)) ?_
  simp only [List.setIfInBounds_toArray, List.set_cons_zero, List.set_cons_succ]
  refine calm_to (i := 37) (t := 106) (v := .bool true) rfl rfl (by kernel_rfl) (by kernel_rfl) (by kernel_rfl) (fun _ _ _ h => h) (calm_pick (by kernel_rfl) (.tmp 100) (.tmp 105) (.const (.bool false)) rfl true rfl rfl) ?_
  simp only [List.setIfInBounds_toArray, List.set_cons_zero, List.set_cons_succ]
  refine calm_to (i := 38) (t := 12) (v := .bool true) rfl rfl (by kernel_rfl) (by kernel_rfl) (by kernel_rfl) (fun _ _ _ h => h) (calm_move (by kernel_rfl) (.tmp 106) (.inr rfl) rfl) ?_
  simp only [List.setIfInBounds_toArray, List.set_cons_zero, List.set_cons_succ]
  refine calm_done (by kernel_rfl) (fun U hU => ?_) _
  have BU := Lib.hid (below3 BB.out hU)
  clear hU
  go_wp2_with fail
  go_ret
  exact ⟨rfl, BU.out⟩

end Go.Proofs.YtojaaoeflajdnaaDoor

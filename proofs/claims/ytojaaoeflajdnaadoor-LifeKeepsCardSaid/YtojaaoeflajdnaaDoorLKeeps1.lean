/-
  The walk of the law LifeKeeps of layer 12: in place 1.
-/
import Derived.Test.YtojaaoeflajdnaaDoorTke
import Derived.Test.YtojaaoeflajdnaaDoorTkj
namespace Go.Proofs.YtojaaoeflajdnaaDoor
open Go.RowKit

set_option maxRecDepth 100000 in
set_option maxHeartbeats 8000000 in
theorem lk_1A (id tn pg pc un k0 k1 k2 k3 st rn too a b f y0 y1 y2 y3 y4 y5 y6 y7 y8 y9 y10 p0 p1 p2 p3 p4 p5 p6 p7 p8 p9 p10 u0 u1 u2 u3 u4 u5 u6 u7 u8 u9 u10 h : Int) (w : World) (hF : Fol w) (h1 : keepR ⟨id, tn, pg, pc, un, k0, k1, k2, k3, st, rn⟩ 1 a = (0, ⟨id, tn, pg, pc, un, k0, a, k2, k3, st, rn⟩)) (h2 : keepR ⟨id, tn, pg, pc, un, k0, a, k2, k3, st, rn⟩ 1 b = (f, ⟨y0, y1, y2, y3, y4, y5, y6, y7, y8, y9, y10⟩)) (h3 : keepR ⟨id, tn, pg, pc, un, k0, k1, k2, k3, st, rn⟩ 1 b = (f, ⟨y0, y1, y2, y3, y4, y5, y6, y7, y8, y9, y10⟩)) (h4 : keepR ⟨id, tn, pg, pc, un, k0, a, k2, k3, st, rn⟩ too b = (h, ⟨p0, p1, p2, p3, p4, p5, p6, p7, p8, p9, p10⟩)) (h5 : keepR ⟨id, tn, pg, pc, un, k0, k1, k2, k3, st, rn⟩ too b = (h, ⟨u0, u1, u2, u3, u4, u5, u6, u7, u8, u9, u10⟩)) (h6 : (h == 0) = false) :
    Calls Tryd.prog 8 #[.agg #[.int .i64 id, .int .i64 tn, .int .i64 pg, .int .i64 pc, .int .i64 un, .int .i64 k0, .int .i64 k1, .int .i64 k2, .int .i64 k3, .int .i64 st, .int .i64 rn], .int .i64 1, .int .i64 too, .int .i64 a, .int .i64 b] w (TrueAns w) := by
  have S1 := Lib.hid (fun (W : World) => h1 ▸ keep_any ⟨id, tn, pg, pc, un, k0, k1, k2, k3, st, rn⟩ 1 a W)
  have S2 := Lib.hid (fun (W : World) => h2 ▸ keep_any ⟨id, tn, pg, pc, un, k0, a, k2, k3, st, rn⟩ 1 b W)
  have S3 := Lib.hid (fun (W : World) => h3 ▸ keep_any ⟨id, tn, pg, pc, un, k0, k1, k2, k3, st, rn⟩ 1 b W)
  have S4 := Lib.hid (fun (W : World) => h4 ▸ keep_any ⟨id, tn, pg, pc, un, k0, a, k2, k3, st, rn⟩ too b W)
  have S5 := Lib.hid (fun (W : World) => h5 ▸ keep_any ⟨id, tn, pg, pc, un, k0, k1, k2, k3, st, rn⟩ too b W)
  have E1 := neq_task ⟨y0, y1, y2, y3, y4, y5, y6, y7, y8, y9, y10⟩
  have E2 := neq_task ⟨p0, p1, p2, p3, p4, p5, p6, p7, p8, p9, p10⟩
  have E3 := eql_task ⟨id, tn, pg, pc, un, k0, k1, k2, k3, st, rn⟩
  unfold tc at E1 E2 E3
  dsimp only at E1 E2 E3
  have HE1 := Lib.hid E1
  have HE2 := Lib.hid E2
  have HE3 := Lib.hid E3
  clear h1 h2 h3 h4 h5 E1 E2 E3
  unfold tc at S1 S2 S3 S4 S5
  dsimp only at S1 S2 S3 S4 S5
  have kb := Bk.new w 24 #[.int .i64 id, .int .i64 tn, .int .i64 pg, .int .i64 pc, .int .i64 un, .int .i64 k0, .int .i64 k1, .int .i64 k2, .int .i64 k3, .int .i64 st, .int .i64 rn]
  have bb := (Below.refl w.heap.size w).alloc (Nat.le_refl _) (.cells #[.int .i64 id, .int .i64 tn, .int .i64 pg, .int .i64 pc, .int .i64 un, .int .i64 k0, .int .i64 k1, .int .i64 k2, .int .i64 k3, .int .i64 st, .int .i64 rn] 24)
  obtain ⟨V, hV⟩ : ∃ V, w.alloc (.cells #[.int .i64 id, .int .i64 tn, .int .i64 pg, .int .i64 pc, .int .i64 un, .int .i64 k0, .int .i64 k1, .int .i64 k2, .int .i64 k3, .int .i64 st, .int .i64 rn] 24) = V := ⟨_, rfl⟩
  have hf := hF.le bb
  rw [hV] at kb bb hf
  have HV := Lib.hid hV
  have KT := Lib.hid kb
  have BB := Lib.hid bb
  have HF := Lib.hid hf
  clear kb bb hf hV hF
  go_enter Tryd.func8, Tryd.ntmps8
  go_upto_region 1 with fail
  rw [HV.out]
  clear HV
  go_wp2_with fail
  refine (live_any _ HF.out).mono ?_
  rintro e w1 ⟨rfl, b1⟩
  replace BB := Lib.hid (below3 BB.out b1)
  replace KT := Lib.hid (KT.out.below b1 KT.out.lt)
  replace HF := Lib.hid (HF.out.le b1)
  clear b1
  obtain ⟨q0, q1, q2, q3, q4, q5, q6, q7, q8, q9, q10⟩ := KT.out.c11
  have ql := KT.out.lt
  go_wp2_with fail
  refine (S1.out _).mono ?_
  rintro e U1 ⟨rfl, b⟩
  clear q0 q1 q2 q3 q4 q5 q6 q7 q8 q9 q10 ql
  replace BB := Lib.hid (below3 BB.out b)
  replace KT := Lib.hid (KT.out.below b KT.out.lt)
  replace HF := Lib.hid (HF.out.le b)
  clear b
  have kn := Bk.new U1 24 #[.int .i64 id, .int .i64 tn, .int .i64 pg, .int .i64 pc, .int .i64 un, .int .i64 k0, .int .i64 a, .int .i64 k2, .int .i64 k3, .int .i64 st, .int .i64 rn]
  have ba := (Below.refl U1.heap.size U1).alloc (Nat.le_refl _) (.cells #[.int .i64 id, .int .i64 tn, .int .i64 pg, .int .i64 pc, .int .i64 un, .int .i64 k0, .int .i64 a, .int .i64 k2, .int .i64 k3, .int .i64 st, .int .i64 rn] 24)
  have gxb : w.heap.size ≤ U1.heap.size := BB.out.size
  have gxt := KT.out.lt
  replace BB := Lib.hid (below3 BB.out ba)
  replace KT := Lib.hid (KT.out.below ba KT.out.lt)
  replace HF := Lib.hid (HF.out.le ba)
  obtain ⟨gx, hg⟩ : ∃ g, U1.heap.size = g := ⟨_, rfl⟩
  obtain ⟨W1, hW⟩ : ∃ W, U1.alloc (.cells #[.int .i64 id, .int .i64 tn, .int .i64 pg, .int .i64 pc, .int .i64 un, .int .i64 k0, .int .i64 a, .int .i64 k2, .int .i64 k3, .int .i64 st, .int .i64 rn] 24) = W := ⟨_, rfl⟩
  have Kx := Lib.hid kn
  rw [hW] at BB KT HF Kx
  rw [hg] at Kx gxb gxt
  have Hgxb := Lib.hid gxb
  have Hgxt := Lib.hid gxt
  have HW := Lib.hid hW
  have HG := Lib.hid hg
  clear hW hg kn ba gxb gxt
  go_upto_region 5 with fail
  rw [HW.out]
  try rw [HG.out]
  clear HW HG
  obtain ⟨q0, q1, q2, q3, q4, q5, q6, q7, q8, q9, q10⟩ := Kx.out.c11
  have ql := Kx.out.lt
  go_upto_region 9 with fail
  clear q0 q1 q2 q3 q4 q5 q6 q7 q8 q9 q10 ql
  obtain ⟨q0, q1, q2, q3, q4, q5, q6, q7, q8, q9, q10⟩ := Kx.out.c11
  have ql := Kx.out.lt
  go_wp2_with fail
  refine (S2.out _).mono ?_
  rintro e U2 ⟨rfl, b⟩
  clear q0 q1 q2 q3 q4 q5 q6 q7 q8 q9 q10 ql
  replace BB := Lib.hid (below3 BB.out b)
  replace KT := Lib.hid (KT.out.below b KT.out.lt)
  replace HF := Lib.hid (HF.out.le b)
  replace Kx := Lib.hid (Kx.out.below b Kx.out.lt)
  clear b
  have kn := Bk.new U2 24 #[.int .i64 y0, .int .i64 y1, .int .i64 y2, .int .i64 y3, .int .i64 y4, .int .i64 y5, .int .i64 y6, .int .i64 y7, .int .i64 y8, .int .i64 y9, .int .i64 y10]
  have ba := (Below.refl U2.heap.size U2).alloc (Nat.le_refl _) (.cells #[.int .i64 y0, .int .i64 y1, .int .i64 y2, .int .i64 y3, .int .i64 y4, .int .i64 y5, .int .i64 y6, .int .i64 y7, .int .i64 y8, .int .i64 y9, .int .i64 y10] 24)
  have gyb : w.heap.size ≤ U2.heap.size := BB.out.size
  have gyt := KT.out.lt
  have gyx := Kx.out.lt
  replace BB := Lib.hid (below3 BB.out ba)
  replace KT := Lib.hid (KT.out.below ba KT.out.lt)
  replace HF := Lib.hid (HF.out.le ba)
  replace Kx := Lib.hid (Kx.out.below ba Kx.out.lt)
  obtain ⟨gy, hg⟩ : ∃ g, U2.heap.size = g := ⟨_, rfl⟩
  obtain ⟨W2, hW⟩ : ∃ W, U2.alloc (.cells #[.int .i64 y0, .int .i64 y1, .int .i64 y2, .int .i64 y3, .int .i64 y4, .int .i64 y5, .int .i64 y6, .int .i64 y7, .int .i64 y8, .int .i64 y9, .int .i64 y10] 24) = W := ⟨_, rfl⟩
  have Ky := Lib.hid kn
  rw [hW] at BB KT HF Kx Ky
  rw [hg] at Ky gyb gyt gyx
  have Hgyb := Lib.hid gyb
  have Hgyt := Lib.hid gyt
  have Hgyx := Lib.hid gyx
  have HW := Lib.hid hW
  have HG := Lib.hid hg
  clear hW hg kn ba gyb gyt gyx
  go_upto_region 10 with fail
  rw [HW.out]
  try rw [HG.out]
  clear HW HG
  obtain ⟨q0, q1, q2, q3, q4, q5, q6, q7, q8, q9, q10⟩ := KT.out.c11
  have ql := KT.out.lt
  go_wp2_with fail
  refine (S3.out _).mono ?_
  rintro e U3 ⟨rfl, b⟩
  clear q0 q1 q2 q3 q4 q5 q6 q7 q8 q9 q10 ql
  replace BB := Lib.hid (below3 BB.out b)
  replace KT := Lib.hid (KT.out.below b KT.out.lt)
  replace HF := Lib.hid (HF.out.le b)
  replace Kx := Lib.hid (Kx.out.below b Kx.out.lt)
  replace Ky := Lib.hid (Ky.out.below b Ky.out.lt)
  clear b
  have kn := Bk.new U3 24 #[.int .i64 y0, .int .i64 y1, .int .i64 y2, .int .i64 y3, .int .i64 y4, .int .i64 y5, .int .i64 y6, .int .i64 y7, .int .i64 y8, .int .i64 y9, .int .i64 y10]
  have ba := (Below.refl U3.heap.size U3).alloc (Nat.le_refl _) (.cells #[.int .i64 y0, .int .i64 y1, .int .i64 y2, .int .i64 y3, .int .i64 y4, .int .i64 y5, .int .i64 y6, .int .i64 y7, .int .i64 y8, .int .i64 y9, .int .i64 y10] 24)
  have gzb : w.heap.size ≤ U3.heap.size := BB.out.size
  have gzt := KT.out.lt
  have gzx := Kx.out.lt
  replace BB := Lib.hid (below3 BB.out ba)
  replace KT := Lib.hid (KT.out.below ba KT.out.lt)
  replace HF := Lib.hid (HF.out.le ba)
  replace Kx := Lib.hid (Kx.out.below ba Kx.out.lt)
  replace Ky := Lib.hid (Ky.out.below ba Ky.out.lt)
  obtain ⟨gz, hg⟩ : ∃ g, U3.heap.size = g := ⟨_, rfl⟩
  obtain ⟨W3, hW⟩ : ∃ W, U3.alloc (.cells #[.int .i64 y0, .int .i64 y1, .int .i64 y2, .int .i64 y3, .int .i64 y4, .int .i64 y5, .int .i64 y6, .int .i64 y7, .int .i64 y8, .int .i64 y9, .int .i64 y10] 24) = W := ⟨_, rfl⟩
  have Kz := Lib.hid kn
  rw [hW] at BB KT HF Kx Ky Kz
  rw [hg] at Kz gzb gzt gzx
  have Hgzb := Lib.hid gzb
  have Hgzt := Lib.hid gzt
  have Hgzx := Lib.hid gzx
  have HW := Lib.hid hW
  have HG := Lib.hid hg
  clear hW hg kn ba gzb gzt gzx
  go_upto_region 11 with fail
  rw [HW.out]
  try rw [HG.out]
  clear HW HG
  obtain ⟨q0, q1, q2, q3, q4, q5, q6, q7, q8, q9, q10⟩ := Ky.out.c11
  have ql := Ky.out.lt
  obtain ⟨r0, r1, r2, r3, r4, r5, r6, r7, r8, r9, r10⟩ := Kz.out.c11
  have rl := Kz.out.lt
  have e1 := HE1.out
  have e2 := guard_task .neq
  go_upto_region 13 with fail
  clear e1 e2 q0 q1 q2 q3 q4 q5 q6 q7 q8 q9 q10 ql r0 r1 r2 r3 r4 r5 r6 r7 r8 r9 r10 rl
  obtain ⟨q0, q1, q2, q3, q4, q5, q6, q7, q8, q9, q10⟩ := Kx.out.c11
  have ql := Kx.out.lt
  go_wp2_with fail
  refine (S4.out _).mono ?_
  rintro e U4 ⟨rfl, b⟩
  clear q0 q1 q2 q3 q4 q5 q6 q7 q8 q9 q10 ql
  replace BB := Lib.hid (below3 BB.out b)
  replace KT := Lib.hid (KT.out.below b KT.out.lt)
  replace HF := Lib.hid (HF.out.le b)
  replace Kx := Lib.hid (Kx.out.below b Kx.out.lt)
  replace Ky := Lib.hid (Ky.out.below b Ky.out.lt)
  replace Kz := Lib.hid (Kz.out.below b Kz.out.lt)
  clear b
  have kn := Bk.new U4 24 #[.int .i64 p0, .int .i64 p1, .int .i64 p2, .int .i64 p3, .int .i64 p4, .int .i64 p5, .int .i64 p6, .int .i64 p7, .int .i64 p8, .int .i64 p9, .int .i64 p10]
  have ba := (Below.refl U4.heap.size U4).alloc (Nat.le_refl _) (.cells #[.int .i64 p0, .int .i64 p1, .int .i64 p2, .int .i64 p3, .int .i64 p4, .int .i64 p5, .int .i64 p6, .int .i64 p7, .int .i64 p8, .int .i64 p9, .int .i64 p10] 24)
  have gpb : w.heap.size ≤ U4.heap.size := BB.out.size
  have gpt := KT.out.lt
  have gpx := Kx.out.lt
  replace BB := Lib.hid (below3 BB.out ba)
  replace KT := Lib.hid (KT.out.below ba KT.out.lt)
  replace HF := Lib.hid (HF.out.le ba)
  replace Kx := Lib.hid (Kx.out.below ba Kx.out.lt)
  replace Ky := Lib.hid (Ky.out.below ba Ky.out.lt)
  replace Kz := Lib.hid (Kz.out.below ba Kz.out.lt)
  obtain ⟨gp, hg⟩ : ∃ g, U4.heap.size = g := ⟨_, rfl⟩
  obtain ⟨W4, hW⟩ : ∃ W, U4.alloc (.cells #[.int .i64 p0, .int .i64 p1, .int .i64 p2, .int .i64 p3, .int .i64 p4, .int .i64 p5, .int .i64 p6, .int .i64 p7, .int .i64 p8, .int .i64 p9, .int .i64 p10] 24) = W := ⟨_, rfl⟩
  have Kp := Lib.hid kn
  rw [hW] at BB KT HF Kx Ky Kz Kp
  rw [hg] at Kp gpb gpt gpx
  have Hgpb := Lib.hid gpb
  have Hgpt := Lib.hid gpt
  have Hgpx := Lib.hid gpx
  have HW := Lib.hid hW
  have HG := Lib.hid hg
  clear hW hg kn ba gpb gpt gpx
  go_upto_region 14 with fail
  rw [HW.out]
  try rw [HG.out]
  clear HW HG
  obtain ⟨q0, q1, q2, q3, q4, q5, q6, q7, q8, q9, q10⟩ := KT.out.c11
  have ql := KT.out.lt
  go_wp2_with fail
  refine (S5.out _).mono ?_
  rintro e U5 ⟨rfl, b⟩
  clear q0 q1 q2 q3 q4 q5 q6 q7 q8 q9 q10 ql
  replace BB := Lib.hid (below3 BB.out b)
  replace KT := Lib.hid (KT.out.below b KT.out.lt)
  replace HF := Lib.hid (HF.out.le b)
  replace Kx := Lib.hid (Kx.out.below b Kx.out.lt)
  replace Ky := Lib.hid (Ky.out.below b Ky.out.lt)
  replace Kz := Lib.hid (Kz.out.below b Kz.out.lt)
  replace Kp := Lib.hid (Kp.out.below b Kp.out.lt)
  clear b
  have kn := Bk.new U5 24 #[.int .i64 u0, .int .i64 u1, .int .i64 u2, .int .i64 u3, .int .i64 u4, .int .i64 u5, .int .i64 u6, .int .i64 u7, .int .i64 u8, .int .i64 u9, .int .i64 u10]
  have ba := (Below.refl U5.heap.size U5).alloc (Nat.le_refl _) (.cells #[.int .i64 u0, .int .i64 u1, .int .i64 u2, .int .i64 u3, .int .i64 u4, .int .i64 u5, .int .i64 u6, .int .i64 u7, .int .i64 u8, .int .i64 u9, .int .i64 u10] 24)
  have gub : w.heap.size ≤ U5.heap.size := BB.out.size
  have gut := KT.out.lt
  have gux := Kx.out.lt
  have gup := Kp.out.lt
  replace BB := Lib.hid (below3 BB.out ba)
  replace KT := Lib.hid (KT.out.below ba KT.out.lt)
  replace HF := Lib.hid (HF.out.le ba)
  replace Kx := Lib.hid (Kx.out.below ba Kx.out.lt)
  replace Ky := Lib.hid (Ky.out.below ba Ky.out.lt)
  replace Kz := Lib.hid (Kz.out.below ba Kz.out.lt)
  replace Kp := Lib.hid (Kp.out.below ba Kp.out.lt)
  obtain ⟨gu, hg⟩ : ∃ g, U5.heap.size = g := ⟨_, rfl⟩
  obtain ⟨W5, hW⟩ : ∃ W, U5.alloc (.cells #[.int .i64 u0, .int .i64 u1, .int .i64 u2, .int .i64 u3, .int .i64 u4, .int .i64 u5, .int .i64 u6, .int .i64 u7, .int .i64 u8, .int .i64 u9, .int .i64 u10] 24) = W := ⟨_, rfl⟩
  have Ku := Lib.hid kn
  rw [hW] at BB KT HF Kx Ky Kz Kp Ku
  rw [hg] at Ku gub gut gux gup
  have Hgub := Lib.hid gub
  have Hgut := Lib.hid gut
  have Hgux := Lib.hid gux
  have Hgup := Lib.hid gup
  have HW := Lib.hid hW
  have HG := Lib.hid hg
  clear hW hg kn ba gub gut gux gup
  go_upto_region 15 with fail
  rw [HW.out]
  try rw [HG.out]
  clear HW HG
  go_upto_region 21 with fail
  have n1 : Bk ((((W5.setCell ⟨gx, 5, none⟩ (.int .i64 k0)).setCell ⟨gx, 6, none⟩ (.int .i64 k1)).setCell ⟨gx, 7, none⟩ (.int .i64 k2)).setCell ⟨gx, 8, none⟩ (.int .i64 k3)) gx 24 #[.int .i64 id, .int .i64 tn, .int .i64 pg, .int .i64 pc, .int .i64 un, .int .i64 k0, .int .i64 k1, .int .i64 k2, .int .i64 k3, .int .i64 st, .int .i64 rn] := (((Kx.out.set_ 5 (.int .i64 k0)).set_ 6 (.int .i64 k1)).set_ 7 (.int .i64 k2)).set_ 8 (.int .i64 k3)
  have n2 := (((KT.out.far (p := ⟨gx, 5, none⟩) (Nat.ne_of_lt Hgxt.out) (.int .i64 k0)).far (p := ⟨gx, 6, none⟩) (Nat.ne_of_lt Hgxt.out) (.int .i64 k1)).far (p := ⟨gx, 7, none⟩) (Nat.ne_of_lt Hgxt.out) (.int .i64 k2)).far (p := ⟨gx, 8, none⟩) (Nat.ne_of_lt Hgxt.out) (.int .i64 k3)
  have n3 := (((BB.out.setCell (p := ⟨gx, 5, none⟩) Hgxb.out (.int .i64 k0)).setCell (p := ⟨gx, 6, none⟩) Hgxb.out (.int .i64 k1)).setCell (p := ⟨gx, 7, none⟩) Hgxb.out (.int .i64 k2)).setCell (p := ⟨gx, 8, none⟩) Hgxb.out (.int .i64 k3)
  obtain ⟨q0, q1, q2, q3, q4, q5, q6, q7, q8, q9, q10⟩ := Kx.out.c11
  have ql := Kx.out.lt
  obtain ⟨r0, r1, r2, r3, r4, r5, r6, r7, r8, r9, r10⟩ := KT.out.c11
  have rl := KT.out.lt
  obtain ⟨f0, f1, f2, f3, f4, f5, f6, f7, f8, f9, f10⟩ := Kx.out.f11
  obtain ⟨X7, hX⟩ : ∃ X, (((W5.setCell ⟨gx, 5, none⟩ (.int .i64 k0)).setCell ⟨gx, 6, none⟩ (.int .i64 k1)).setCell ⟨gx, 7, none⟩ (.int .i64 k2)).setCell ⟨gx, 8, none⟩ (.int .i64 k3) = X := ⟨_, rfl⟩
  rw [hX] at n1 n2 n3
  have HX := Lib.hid hX
  replace Kx := Lib.hid n1
  replace KT := Lib.hid n2
  replace BB := Lib.hid n3
  clear n1 n2 n3 hX Kp Ku Ky Kz HF
  go_upto_region 22 with fail
  rw [HX.out]
  clear HX q0 q1 q2 q3 q4 q5 q6 q7 q8 q9 q10 ql r0 r1 r2 r3 r4 r5 r6 r7 r8 r9 r10 rl f0 f1 f2 f3 f4 f5 f6 f7 f8 f9 f10
  obtain ⟨q0, q1, q2, q3, q4, q5, q6, q7, q8, q9, q10⟩ := Kx.out.c11
  have ql := Kx.out.lt
  obtain ⟨r0, r1, r2, r3, r4, r5, r6, r7, r8, r9, r10⟩ := KT.out.c11
  have rl := KT.out.lt
  have e1 := HE3.out
  have e2 := guard_task .eql
  go_wp2_with fail
  go_ret
  exact ⟨rfl, BB.out⟩

set_option maxRecDepth 100000 in
set_option maxHeartbeats 8000000 in
theorem lk_1B (id tn pg pc un k0 k1 k2 k3 st rn a b f y0 y1 y2 y3 y4 y5 y6 y7 y8 y9 y10 p0 p1 p2 p3 p4 p5 p6 p7 p8 p9 p10 u0 u1 u2 u3 u4 u5 u6 u7 u8 u9 u10 : Int) (w : World) (hF : Fol w) (h1 : keepR ⟨id, tn, pg, pc, un, k0, k1, k2, k3, st, rn⟩ 1 a = (0, ⟨id, tn, pg, pc, un, k0, a, k2, k3, st, rn⟩)) (h2 : keepR ⟨id, tn, pg, pc, un, k0, a, k2, k3, st, rn⟩ 1 b = (f, ⟨y0, y1, y2, y3, y4, y5, y6, y7, y8, y9, y10⟩)) (h3 : keepR ⟨id, tn, pg, pc, un, k0, k1, k2, k3, st, rn⟩ 1 b = (f, ⟨y0, y1, y2, y3, y4, y5, y6, y7, y8, y9, y10⟩)) (h4 : keepR ⟨id, tn, pg, pc, un, k0, a, k2, k3, st, rn⟩ 1 b = (0, ⟨p0, p1, p2, p3, p4, p5, p6, p7, p8, p9, p10⟩)) (h5 : keepR ⟨id, tn, pg, pc, un, k0, k1, k2, k3, st, rn⟩ 1 b = (0, ⟨u0, u1, u2, u3, u4, u5, u6, u7, u8, u9, u10⟩)) :
    Calls Tryd.prog 8 #[.agg #[.int .i64 id, .int .i64 tn, .int .i64 pg, .int .i64 pc, .int .i64 un, .int .i64 k0, .int .i64 k1, .int .i64 k2, .int .i64 k3, .int .i64 st, .int .i64 rn], .int .i64 1, .int .i64 1, .int .i64 a, .int .i64 b] w (TrueAns w) := by
  have S1 := Lib.hid (fun (W : World) => h1 ▸ keep_any ⟨id, tn, pg, pc, un, k0, k1, k2, k3, st, rn⟩ 1 a W)
  have S2 := Lib.hid (fun (W : World) => h2 ▸ keep_any ⟨id, tn, pg, pc, un, k0, a, k2, k3, st, rn⟩ 1 b W)
  have S3 := Lib.hid (fun (W : World) => h3 ▸ keep_any ⟨id, tn, pg, pc, un, k0, k1, k2, k3, st, rn⟩ 1 b W)
  have S4 := Lib.hid (fun (W : World) => h4 ▸ keep_any ⟨id, tn, pg, pc, un, k0, a, k2, k3, st, rn⟩ 1 b W)
  have S5 := Lib.hid (fun (W : World) => h5 ▸ keep_any ⟨id, tn, pg, pc, un, k0, k1, k2, k3, st, rn⟩ 1 b W)
  have E1 := neq_task ⟨y0, y1, y2, y3, y4, y5, y6, y7, y8, y9, y10⟩
  have E2 := neq_task ⟨p0, p1, p2, p3, p4, p5, p6, p7, p8, p9, p10⟩
  have E3 := eql_task ⟨id, tn, pg, pc, un, k0, k1, k2, k3, st, rn⟩
  unfold tc at E1 E2 E3
  dsimp only at E1 E2 E3
  have HE1 := Lib.hid E1
  have HE2 := Lib.hid E2
  have HE3 := Lib.hid E3
  clear h1 h2 h3 h4 h5 E1 E2 E3
  unfold tc at S1 S2 S3 S4 S5
  dsimp only at S1 S2 S3 S4 S5
  have kb := Bk.new w 24 #[.int .i64 id, .int .i64 tn, .int .i64 pg, .int .i64 pc, .int .i64 un, .int .i64 k0, .int .i64 k1, .int .i64 k2, .int .i64 k3, .int .i64 st, .int .i64 rn]
  have bb := (Below.refl w.heap.size w).alloc (Nat.le_refl _) (.cells #[.int .i64 id, .int .i64 tn, .int .i64 pg, .int .i64 pc, .int .i64 un, .int .i64 k0, .int .i64 k1, .int .i64 k2, .int .i64 k3, .int .i64 st, .int .i64 rn] 24)
  obtain ⟨V, hV⟩ : ∃ V, w.alloc (.cells #[.int .i64 id, .int .i64 tn, .int .i64 pg, .int .i64 pc, .int .i64 un, .int .i64 k0, .int .i64 k1, .int .i64 k2, .int .i64 k3, .int .i64 st, .int .i64 rn] 24) = V := ⟨_, rfl⟩
  have hf := hF.le bb
  rw [hV] at kb bb hf
  have HV := Lib.hid hV
  have KT := Lib.hid kb
  have BB := Lib.hid bb
  have HF := Lib.hid hf
  clear kb bb hf hV hF
  go_enter Tryd.func8, Tryd.ntmps8
  go_upto_region 1 with fail
  rw [HV.out]
  clear HV
  go_wp2_with fail
  refine (live_any _ HF.out).mono ?_
  rintro e w1 ⟨rfl, b1⟩
  replace BB := Lib.hid (below3 BB.out b1)
  replace KT := Lib.hid (KT.out.below b1 KT.out.lt)
  replace HF := Lib.hid (HF.out.le b1)
  clear b1
  obtain ⟨q0, q1, q2, q3, q4, q5, q6, q7, q8, q9, q10⟩ := KT.out.c11
  have ql := KT.out.lt
  go_wp2_with fail
  refine (S1.out _).mono ?_
  rintro e U1 ⟨rfl, b⟩
  clear q0 q1 q2 q3 q4 q5 q6 q7 q8 q9 q10 ql
  replace BB := Lib.hid (below3 BB.out b)
  replace KT := Lib.hid (KT.out.below b KT.out.lt)
  replace HF := Lib.hid (HF.out.le b)
  clear b
  have kn := Bk.new U1 24 #[.int .i64 id, .int .i64 tn, .int .i64 pg, .int .i64 pc, .int .i64 un, .int .i64 k0, .int .i64 a, .int .i64 k2, .int .i64 k3, .int .i64 st, .int .i64 rn]
  have ba := (Below.refl U1.heap.size U1).alloc (Nat.le_refl _) (.cells #[.int .i64 id, .int .i64 tn, .int .i64 pg, .int .i64 pc, .int .i64 un, .int .i64 k0, .int .i64 a, .int .i64 k2, .int .i64 k3, .int .i64 st, .int .i64 rn] 24)
  have gxb : w.heap.size ≤ U1.heap.size := BB.out.size
  have gxt := KT.out.lt
  replace BB := Lib.hid (below3 BB.out ba)
  replace KT := Lib.hid (KT.out.below ba KT.out.lt)
  replace HF := Lib.hid (HF.out.le ba)
  obtain ⟨gx, hg⟩ : ∃ g, U1.heap.size = g := ⟨_, rfl⟩
  obtain ⟨W1, hW⟩ : ∃ W, U1.alloc (.cells #[.int .i64 id, .int .i64 tn, .int .i64 pg, .int .i64 pc, .int .i64 un, .int .i64 k0, .int .i64 a, .int .i64 k2, .int .i64 k3, .int .i64 st, .int .i64 rn] 24) = W := ⟨_, rfl⟩
  have Kx := Lib.hid kn
  rw [hW] at BB KT HF Kx
  rw [hg] at Kx gxb gxt
  have Hgxb := Lib.hid gxb
  have Hgxt := Lib.hid gxt
  have HW := Lib.hid hW
  have HG := Lib.hid hg
  clear hW hg kn ba gxb gxt
  go_upto_region 5 with fail
  rw [HW.out]
  try rw [HG.out]
  clear HW HG
  obtain ⟨q0, q1, q2, q3, q4, q5, q6, q7, q8, q9, q10⟩ := Kx.out.c11
  have ql := Kx.out.lt
  go_upto_region 9 with fail
  clear q0 q1 q2 q3 q4 q5 q6 q7 q8 q9 q10 ql
  obtain ⟨q0, q1, q2, q3, q4, q5, q6, q7, q8, q9, q10⟩ := Kx.out.c11
  have ql := Kx.out.lt
  go_wp2_with fail
  refine (S2.out _).mono ?_
  rintro e U2 ⟨rfl, b⟩
  clear q0 q1 q2 q3 q4 q5 q6 q7 q8 q9 q10 ql
  replace BB := Lib.hid (below3 BB.out b)
  replace KT := Lib.hid (KT.out.below b KT.out.lt)
  replace HF := Lib.hid (HF.out.le b)
  replace Kx := Lib.hid (Kx.out.below b Kx.out.lt)
  clear b
  have kn := Bk.new U2 24 #[.int .i64 y0, .int .i64 y1, .int .i64 y2, .int .i64 y3, .int .i64 y4, .int .i64 y5, .int .i64 y6, .int .i64 y7, .int .i64 y8, .int .i64 y9, .int .i64 y10]
  have ba := (Below.refl U2.heap.size U2).alloc (Nat.le_refl _) (.cells #[.int .i64 y0, .int .i64 y1, .int .i64 y2, .int .i64 y3, .int .i64 y4, .int .i64 y5, .int .i64 y6, .int .i64 y7, .int .i64 y8, .int .i64 y9, .int .i64 y10] 24)
  have gyb : w.heap.size ≤ U2.heap.size := BB.out.size
  have gyt := KT.out.lt
  have gyx := Kx.out.lt
  replace BB := Lib.hid (below3 BB.out ba)
  replace KT := Lib.hid (KT.out.below ba KT.out.lt)
  replace HF := Lib.hid (HF.out.le ba)
  replace Kx := Lib.hid (Kx.out.below ba Kx.out.lt)
  obtain ⟨gy, hg⟩ : ∃ g, U2.heap.size = g := ⟨_, rfl⟩
  obtain ⟨W2, hW⟩ : ∃ W, U2.alloc (.cells #[.int .i64 y0, .int .i64 y1, .int .i64 y2, .int .i64 y3, .int .i64 y4, .int .i64 y5, .int .i64 y6, .int .i64 y7, .int .i64 y8, .int .i64 y9, .int .i64 y10] 24) = W := ⟨_, rfl⟩
  have Ky := Lib.hid kn
  rw [hW] at BB KT HF Kx Ky
  rw [hg] at Ky gyb gyt gyx
  have Hgyb := Lib.hid gyb
  have Hgyt := Lib.hid gyt
  have Hgyx := Lib.hid gyx
  have HW := Lib.hid hW
  have HG := Lib.hid hg
  clear hW hg kn ba gyb gyt gyx
  go_upto_region 10 with fail
  rw [HW.out]
  try rw [HG.out]
  clear HW HG
  obtain ⟨q0, q1, q2, q3, q4, q5, q6, q7, q8, q9, q10⟩ := KT.out.c11
  have ql := KT.out.lt
  go_wp2_with fail
  refine (S3.out _).mono ?_
  rintro e U3 ⟨rfl, b⟩
  clear q0 q1 q2 q3 q4 q5 q6 q7 q8 q9 q10 ql
  replace BB := Lib.hid (below3 BB.out b)
  replace KT := Lib.hid (KT.out.below b KT.out.lt)
  replace HF := Lib.hid (HF.out.le b)
  replace Kx := Lib.hid (Kx.out.below b Kx.out.lt)
  replace Ky := Lib.hid (Ky.out.below b Ky.out.lt)
  clear b
  have kn := Bk.new U3 24 #[.int .i64 y0, .int .i64 y1, .int .i64 y2, .int .i64 y3, .int .i64 y4, .int .i64 y5, .int .i64 y6, .int .i64 y7, .int .i64 y8, .int .i64 y9, .int .i64 y10]
  have ba := (Below.refl U3.heap.size U3).alloc (Nat.le_refl _) (.cells #[.int .i64 y0, .int .i64 y1, .int .i64 y2, .int .i64 y3, .int .i64 y4, .int .i64 y5, .int .i64 y6, .int .i64 y7, .int .i64 y8, .int .i64 y9, .int .i64 y10] 24)
  have gzb : w.heap.size ≤ U3.heap.size := BB.out.size
  have gzt := KT.out.lt
  have gzx := Kx.out.lt
  replace BB := Lib.hid (below3 BB.out ba)
  replace KT := Lib.hid (KT.out.below ba KT.out.lt)
  replace HF := Lib.hid (HF.out.le ba)
  replace Kx := Lib.hid (Kx.out.below ba Kx.out.lt)
  replace Ky := Lib.hid (Ky.out.below ba Ky.out.lt)
  obtain ⟨gz, hg⟩ : ∃ g, U3.heap.size = g := ⟨_, rfl⟩
  obtain ⟨W3, hW⟩ : ∃ W, U3.alloc (.cells #[.int .i64 y0, .int .i64 y1, .int .i64 y2, .int .i64 y3, .int .i64 y4, .int .i64 y5, .int .i64 y6, .int .i64 y7, .int .i64 y8, .int .i64 y9, .int .i64 y10] 24) = W := ⟨_, rfl⟩
  have Kz := Lib.hid kn
  rw [hW] at BB KT HF Kx Ky Kz
  rw [hg] at Kz gzb gzt gzx
  have Hgzb := Lib.hid gzb
  have Hgzt := Lib.hid gzt
  have Hgzx := Lib.hid gzx
  have HW := Lib.hid hW
  have HG := Lib.hid hg
  clear hW hg kn ba gzb gzt gzx
  go_upto_region 11 with fail
  rw [HW.out]
  try rw [HG.out]
  clear HW HG
  obtain ⟨q0, q1, q2, q3, q4, q5, q6, q7, q8, q9, q10⟩ := Ky.out.c11
  have ql := Ky.out.lt
  obtain ⟨r0, r1, r2, r3, r4, r5, r6, r7, r8, r9, r10⟩ := Kz.out.c11
  have rl := Kz.out.lt
  have e1 := HE1.out
  have e2 := guard_task .neq
  go_upto_region 13 with fail
  clear e1 e2 q0 q1 q2 q3 q4 q5 q6 q7 q8 q9 q10 ql r0 r1 r2 r3 r4 r5 r6 r7 r8 r9 r10 rl
  obtain ⟨q0, q1, q2, q3, q4, q5, q6, q7, q8, q9, q10⟩ := Kx.out.c11
  have ql := Kx.out.lt
  go_wp2_with fail
  refine (S4.out _).mono ?_
  rintro e U4 ⟨rfl, b⟩
  clear q0 q1 q2 q3 q4 q5 q6 q7 q8 q9 q10 ql
  replace BB := Lib.hid (below3 BB.out b)
  replace KT := Lib.hid (KT.out.below b KT.out.lt)
  replace HF := Lib.hid (HF.out.le b)
  replace Kx := Lib.hid (Kx.out.below b Kx.out.lt)
  replace Ky := Lib.hid (Ky.out.below b Ky.out.lt)
  replace Kz := Lib.hid (Kz.out.below b Kz.out.lt)
  clear b
  have kn := Bk.new U4 24 #[.int .i64 p0, .int .i64 p1, .int .i64 p2, .int .i64 p3, .int .i64 p4, .int .i64 p5, .int .i64 p6, .int .i64 p7, .int .i64 p8, .int .i64 p9, .int .i64 p10]
  have ba := (Below.refl U4.heap.size U4).alloc (Nat.le_refl _) (.cells #[.int .i64 p0, .int .i64 p1, .int .i64 p2, .int .i64 p3, .int .i64 p4, .int .i64 p5, .int .i64 p6, .int .i64 p7, .int .i64 p8, .int .i64 p9, .int .i64 p10] 24)
  have gpb : w.heap.size ≤ U4.heap.size := BB.out.size
  have gpt := KT.out.lt
  have gpx := Kx.out.lt
  replace BB := Lib.hid (below3 BB.out ba)
  replace KT := Lib.hid (KT.out.below ba KT.out.lt)
  replace HF := Lib.hid (HF.out.le ba)
  replace Kx := Lib.hid (Kx.out.below ba Kx.out.lt)
  replace Ky := Lib.hid (Ky.out.below ba Ky.out.lt)
  replace Kz := Lib.hid (Kz.out.below ba Kz.out.lt)
  obtain ⟨gp, hg⟩ : ∃ g, U4.heap.size = g := ⟨_, rfl⟩
  obtain ⟨W4, hW⟩ : ∃ W, U4.alloc (.cells #[.int .i64 p0, .int .i64 p1, .int .i64 p2, .int .i64 p3, .int .i64 p4, .int .i64 p5, .int .i64 p6, .int .i64 p7, .int .i64 p8, .int .i64 p9, .int .i64 p10] 24) = W := ⟨_, rfl⟩
  have Kp := Lib.hid kn
  rw [hW] at BB KT HF Kx Ky Kz Kp
  rw [hg] at Kp gpb gpt gpx
  have Hgpb := Lib.hid gpb
  have Hgpt := Lib.hid gpt
  have Hgpx := Lib.hid gpx
  have HW := Lib.hid hW
  have HG := Lib.hid hg
  clear hW hg kn ba gpb gpt gpx
  go_upto_region 14 with fail
  rw [HW.out]
  try rw [HG.out]
  clear HW HG
  obtain ⟨q0, q1, q2, q3, q4, q5, q6, q7, q8, q9, q10⟩ := KT.out.c11
  have ql := KT.out.lt
  go_wp2_with fail
  refine (S5.out _).mono ?_
  rintro e U5 ⟨rfl, b⟩
  clear q0 q1 q2 q3 q4 q5 q6 q7 q8 q9 q10 ql
  replace BB := Lib.hid (below3 BB.out b)
  replace KT := Lib.hid (KT.out.below b KT.out.lt)
  replace HF := Lib.hid (HF.out.le b)
  replace Kx := Lib.hid (Kx.out.below b Kx.out.lt)
  replace Ky := Lib.hid (Ky.out.below b Ky.out.lt)
  replace Kz := Lib.hid (Kz.out.below b Kz.out.lt)
  replace Kp := Lib.hid (Kp.out.below b Kp.out.lt)
  clear b
  have kn := Bk.new U5 24 #[.int .i64 u0, .int .i64 u1, .int .i64 u2, .int .i64 u3, .int .i64 u4, .int .i64 u5, .int .i64 u6, .int .i64 u7, .int .i64 u8, .int .i64 u9, .int .i64 u10]
  have ba := (Below.refl U5.heap.size U5).alloc (Nat.le_refl _) (.cells #[.int .i64 u0, .int .i64 u1, .int .i64 u2, .int .i64 u3, .int .i64 u4, .int .i64 u5, .int .i64 u6, .int .i64 u7, .int .i64 u8, .int .i64 u9, .int .i64 u10] 24)
  have gub : w.heap.size ≤ U5.heap.size := BB.out.size
  have gut := KT.out.lt
  have gux := Kx.out.lt
  have gup := Kp.out.lt
  replace BB := Lib.hid (below3 BB.out ba)
  replace KT := Lib.hid (KT.out.below ba KT.out.lt)
  replace HF := Lib.hid (HF.out.le ba)
  replace Kx := Lib.hid (Kx.out.below ba Kx.out.lt)
  replace Ky := Lib.hid (Ky.out.below ba Ky.out.lt)
  replace Kz := Lib.hid (Kz.out.below ba Kz.out.lt)
  replace Kp := Lib.hid (Kp.out.below ba Kp.out.lt)
  obtain ⟨gu, hg⟩ : ∃ g, U5.heap.size = g := ⟨_, rfl⟩
  obtain ⟨W5, hW⟩ : ∃ W, U5.alloc (.cells #[.int .i64 u0, .int .i64 u1, .int .i64 u2, .int .i64 u3, .int .i64 u4, .int .i64 u5, .int .i64 u6, .int .i64 u7, .int .i64 u8, .int .i64 u9, .int .i64 u10] 24) = W := ⟨_, rfl⟩
  have Ku := Lib.hid kn
  rw [hW] at BB KT HF Kx Ky Kz Kp Ku
  rw [hg] at Ku gub gut gux gup
  have Hgub := Lib.hid gub
  have Hgut := Lib.hid gut
  have Hgux := Lib.hid gux
  have Hgup := Lib.hid gup
  have HW := Lib.hid hW
  have HG := Lib.hid hg
  clear hW hg kn ba gub gut gux gup
  go_upto_region 15 with fail
  rw [HW.out]
  try rw [HG.out]
  clear HW HG
  go_upto_region 21 with fail
  have n1 : Bk ((((W5.setCell ⟨gx, 5, none⟩ (.int .i64 k0)).setCell ⟨gx, 6, none⟩ (.int .i64 k1)).setCell ⟨gx, 7, none⟩ (.int .i64 k2)).setCell ⟨gx, 8, none⟩ (.int .i64 k3)) gx 24 #[.int .i64 id, .int .i64 tn, .int .i64 pg, .int .i64 pc, .int .i64 un, .int .i64 k0, .int .i64 k1, .int .i64 k2, .int .i64 k3, .int .i64 st, .int .i64 rn] := (((Kx.out.set_ 5 (.int .i64 k0)).set_ 6 (.int .i64 k1)).set_ 7 (.int .i64 k2)).set_ 8 (.int .i64 k3)
  have n2 := (((KT.out.far (p := ⟨gx, 5, none⟩) (Nat.ne_of_lt Hgxt.out) (.int .i64 k0)).far (p := ⟨gx, 6, none⟩) (Nat.ne_of_lt Hgxt.out) (.int .i64 k1)).far (p := ⟨gx, 7, none⟩) (Nat.ne_of_lt Hgxt.out) (.int .i64 k2)).far (p := ⟨gx, 8, none⟩) (Nat.ne_of_lt Hgxt.out) (.int .i64 k3)
  have n3 := (((BB.out.setCell (p := ⟨gx, 5, none⟩) Hgxb.out (.int .i64 k0)).setCell (p := ⟨gx, 6, none⟩) Hgxb.out (.int .i64 k1)).setCell (p := ⟨gx, 7, none⟩) Hgxb.out (.int .i64 k2)).setCell (p := ⟨gx, 8, none⟩) Hgxb.out (.int .i64 k3)
  obtain ⟨q0, q1, q2, q3, q4, q5, q6, q7, q8, q9, q10⟩ := Kx.out.c11
  have ql := Kx.out.lt
  obtain ⟨r0, r1, r2, r3, r4, r5, r6, r7, r8, r9, r10⟩ := KT.out.c11
  have rl := KT.out.lt
  obtain ⟨f0, f1, f2, f3, f4, f5, f6, f7, f8, f9, f10⟩ := Kx.out.f11
  obtain ⟨X7, hX⟩ : ∃ X, (((W5.setCell ⟨gx, 5, none⟩ (.int .i64 k0)).setCell ⟨gx, 6, none⟩ (.int .i64 k1)).setCell ⟨gx, 7, none⟩ (.int .i64 k2)).setCell ⟨gx, 8, none⟩ (.int .i64 k3) = X := ⟨_, rfl⟩
  rw [hX] at n1 n2 n3
  have HX := Lib.hid hX
  replace Kx := Lib.hid n1
  replace KT := Lib.hid n2
  replace BB := Lib.hid n3
  clear n1 n2 n3 hX Kp Ku Ky Kz HF
  go_upto_region 22 with fail
  rw [HX.out]
  clear HX q0 q1 q2 q3 q4 q5 q6 q7 q8 q9 q10 ql r0 r1 r2 r3 r4 r5 r6 r7 r8 r9 r10 rl f0 f1 f2 f3 f4 f5 f6 f7 f8 f9 f10
  obtain ⟨q0, q1, q2, q3, q4, q5, q6, q7, q8, q9, q10⟩ := Kx.out.c11
  have ql := Kx.out.lt
  obtain ⟨r0, r1, r2, r3, r4, r5, r6, r7, r8, r9, r10⟩ := KT.out.c11
  have rl := KT.out.lt
  have e1 := HE3.out
  have e2 := guard_task .eql
  go_wp2_with fail
  go_ret
  exact ⟨rfl, BB.out⟩

set_option maxRecDepth 100000 in
set_option maxHeartbeats 8000000 in
theorem lk_1C (id tn pg pc un k0 k1 k2 k3 st rn too a b f y0 y1 y2 y3 y4 y5 y6 y7 y8 y9 y10 p0 p1 p2 p3 p4 p5 p6 p7 p8 p9 p10 u0 u1 u2 u3 u4 u5 u6 u7 u8 u9 u10 : Int) (w : World) (hF : Fol w) (h1 : keepR ⟨id, tn, pg, pc, un, k0, k1, k2, k3, st, rn⟩ 1 a = (0, ⟨id, tn, pg, pc, un, k0, a, k2, k3, st, rn⟩)) (h2 : keepR ⟨id, tn, pg, pc, un, k0, a, k2, k3, st, rn⟩ 1 b = (f, ⟨y0, y1, y2, y3, y4, y5, y6, y7, y8, y9, y10⟩)) (h3 : keepR ⟨id, tn, pg, pc, un, k0, k1, k2, k3, st, rn⟩ 1 b = (f, ⟨y0, y1, y2, y3, y4, y5, y6, y7, y8, y9, y10⟩)) (h4 : keepR ⟨id, tn, pg, pc, un, k0, a, k2, k3, st, rn⟩ too b = (0, ⟨p0, p1, p2, p3, p4, p5, p6, p7, p8, p9, p10⟩)) (h5 : keepR ⟨id, tn, pg, pc, un, k0, k1, k2, k3, st, rn⟩ too b = (0, ⟨u0, u1, u2, u3, u4, u5, u6, u7, u8, u9, u10⟩)) (h6 : keepR ⟨u0, u1, u2, u3, u4, u5, u6, u7, u8, u9, u10⟩ 1 a = (0, ⟨p0, p1, p2, p3, p4, p5, p6, p7, p8, p9, p10⟩)) (h7 : (too == 1) = false) :
    Calls Tryd.prog 8 #[.agg #[.int .i64 id, .int .i64 tn, .int .i64 pg, .int .i64 pc, .int .i64 un, .int .i64 k0, .int .i64 k1, .int .i64 k2, .int .i64 k3, .int .i64 st, .int .i64 rn], .int .i64 1, .int .i64 too, .int .i64 a, .int .i64 b] w (TrueAns w) := by
  have S1 := Lib.hid (fun (W : World) => h1 ▸ keep_any ⟨id, tn, pg, pc, un, k0, k1, k2, k3, st, rn⟩ 1 a W)
  have S2 := Lib.hid (fun (W : World) => h2 ▸ keep_any ⟨id, tn, pg, pc, un, k0, a, k2, k3, st, rn⟩ 1 b W)
  have S3 := Lib.hid (fun (W : World) => h3 ▸ keep_any ⟨id, tn, pg, pc, un, k0, k1, k2, k3, st, rn⟩ 1 b W)
  have S4 := Lib.hid (fun (W : World) => h4 ▸ keep_any ⟨id, tn, pg, pc, un, k0, a, k2, k3, st, rn⟩ too b W)
  have S5 := Lib.hid (fun (W : World) => h5 ▸ keep_any ⟨id, tn, pg, pc, un, k0, k1, k2, k3, st, rn⟩ too b W)
  have S6 := Lib.hid (fun (W : World) => h6 ▸ keep_any ⟨u0, u1, u2, u3, u4, u5, u6, u7, u8, u9, u10⟩ 1 a W)
  have E1 := neq_task ⟨y0, y1, y2, y3, y4, y5, y6, y7, y8, y9, y10⟩
  have E2 := neq_task ⟨p0, p1, p2, p3, p4, p5, p6, p7, p8, p9, p10⟩
  have E3 := eql_task ⟨id, tn, pg, pc, un, k0, k1, k2, k3, st, rn⟩
  unfold tc at E1 E2 E3
  dsimp only at E1 E2 E3
  have HE1 := Lib.hid E1
  have HE2 := Lib.hid E2
  have HE3 := Lib.hid E3
  clear h1 h2 h3 h4 h5 E1 E2 E3 h6
  unfold tc at S1 S2 S3 S4 S5 S6
  dsimp only at S1 S2 S3 S4 S5 S6
  have kb := Bk.new w 24 #[.int .i64 id, .int .i64 tn, .int .i64 pg, .int .i64 pc, .int .i64 un, .int .i64 k0, .int .i64 k1, .int .i64 k2, .int .i64 k3, .int .i64 st, .int .i64 rn]
  have bb := (Below.refl w.heap.size w).alloc (Nat.le_refl _) (.cells #[.int .i64 id, .int .i64 tn, .int .i64 pg, .int .i64 pc, .int .i64 un, .int .i64 k0, .int .i64 k1, .int .i64 k2, .int .i64 k3, .int .i64 st, .int .i64 rn] 24)
  obtain ⟨V, hV⟩ : ∃ V, w.alloc (.cells #[.int .i64 id, .int .i64 tn, .int .i64 pg, .int .i64 pc, .int .i64 un, .int .i64 k0, .int .i64 k1, .int .i64 k2, .int .i64 k3, .int .i64 st, .int .i64 rn] 24) = V := ⟨_, rfl⟩
  have hf := hF.le bb
  rw [hV] at kb bb hf
  have HV := Lib.hid hV
  have KT := Lib.hid kb
  have BB := Lib.hid bb
  have HF := Lib.hid hf
  clear kb bb hf hV hF
  go_enter Tryd.func8, Tryd.ntmps8
  go_upto_region 1 with fail
  rw [HV.out]
  clear HV
  go_wp2_with fail
  refine (live_any _ HF.out).mono ?_
  rintro e w1 ⟨rfl, b1⟩
  replace BB := Lib.hid (below3 BB.out b1)
  replace KT := Lib.hid (KT.out.below b1 KT.out.lt)
  replace HF := Lib.hid (HF.out.le b1)
  clear b1
  obtain ⟨q0, q1, q2, q3, q4, q5, q6, q7, q8, q9, q10⟩ := KT.out.c11
  have ql := KT.out.lt
  go_wp2_with fail
  refine (S1.out _).mono ?_
  rintro e U1 ⟨rfl, b⟩
  clear q0 q1 q2 q3 q4 q5 q6 q7 q8 q9 q10 ql
  replace BB := Lib.hid (below3 BB.out b)
  replace KT := Lib.hid (KT.out.below b KT.out.lt)
  replace HF := Lib.hid (HF.out.le b)
  clear b
  have kn := Bk.new U1 24 #[.int .i64 id, .int .i64 tn, .int .i64 pg, .int .i64 pc, .int .i64 un, .int .i64 k0, .int .i64 a, .int .i64 k2, .int .i64 k3, .int .i64 st, .int .i64 rn]
  have ba := (Below.refl U1.heap.size U1).alloc (Nat.le_refl _) (.cells #[.int .i64 id, .int .i64 tn, .int .i64 pg, .int .i64 pc, .int .i64 un, .int .i64 k0, .int .i64 a, .int .i64 k2, .int .i64 k3, .int .i64 st, .int .i64 rn] 24)
  have gxb : w.heap.size ≤ U1.heap.size := BB.out.size
  have gxt := KT.out.lt
  replace BB := Lib.hid (below3 BB.out ba)
  replace KT := Lib.hid (KT.out.below ba KT.out.lt)
  replace HF := Lib.hid (HF.out.le ba)
  obtain ⟨gx, hg⟩ : ∃ g, U1.heap.size = g := ⟨_, rfl⟩
  obtain ⟨W1, hW⟩ : ∃ W, U1.alloc (.cells #[.int .i64 id, .int .i64 tn, .int .i64 pg, .int .i64 pc, .int .i64 un, .int .i64 k0, .int .i64 a, .int .i64 k2, .int .i64 k3, .int .i64 st, .int .i64 rn] 24) = W := ⟨_, rfl⟩
  have Kx := Lib.hid kn
  rw [hW] at BB KT HF Kx
  rw [hg] at Kx gxb gxt
  have Hgxb := Lib.hid gxb
  have Hgxt := Lib.hid gxt
  have HW := Lib.hid hW
  have HG := Lib.hid hg
  clear hW hg kn ba gxb gxt
  go_upto_region 5 with fail
  rw [HW.out]
  try rw [HG.out]
  clear HW HG
  obtain ⟨q0, q1, q2, q3, q4, q5, q6, q7, q8, q9, q10⟩ := Kx.out.c11
  have ql := Kx.out.lt
  go_upto_region 9 with fail
  clear q0 q1 q2 q3 q4 q5 q6 q7 q8 q9 q10 ql
  obtain ⟨q0, q1, q2, q3, q4, q5, q6, q7, q8, q9, q10⟩ := Kx.out.c11
  have ql := Kx.out.lt
  go_wp2_with fail
  refine (S2.out _).mono ?_
  rintro e U2 ⟨rfl, b⟩
  clear q0 q1 q2 q3 q4 q5 q6 q7 q8 q9 q10 ql
  replace BB := Lib.hid (below3 BB.out b)
  replace KT := Lib.hid (KT.out.below b KT.out.lt)
  replace HF := Lib.hid (HF.out.le b)
  replace Kx := Lib.hid (Kx.out.below b Kx.out.lt)
  clear b
  have kn := Bk.new U2 24 #[.int .i64 y0, .int .i64 y1, .int .i64 y2, .int .i64 y3, .int .i64 y4, .int .i64 y5, .int .i64 y6, .int .i64 y7, .int .i64 y8, .int .i64 y9, .int .i64 y10]
  have ba := (Below.refl U2.heap.size U2).alloc (Nat.le_refl _) (.cells #[.int .i64 y0, .int .i64 y1, .int .i64 y2, .int .i64 y3, .int .i64 y4, .int .i64 y5, .int .i64 y6, .int .i64 y7, .int .i64 y8, .int .i64 y9, .int .i64 y10] 24)
  have gyb : w.heap.size ≤ U2.heap.size := BB.out.size
  have gyt := KT.out.lt
  have gyx := Kx.out.lt
  replace BB := Lib.hid (below3 BB.out ba)
  replace KT := Lib.hid (KT.out.below ba KT.out.lt)
  replace HF := Lib.hid (HF.out.le ba)
  replace Kx := Lib.hid (Kx.out.below ba Kx.out.lt)
  obtain ⟨gy, hg⟩ : ∃ g, U2.heap.size = g := ⟨_, rfl⟩
  obtain ⟨W2, hW⟩ : ∃ W, U2.alloc (.cells #[.int .i64 y0, .int .i64 y1, .int .i64 y2, .int .i64 y3, .int .i64 y4, .int .i64 y5, .int .i64 y6, .int .i64 y7, .int .i64 y8, .int .i64 y9, .int .i64 y10] 24) = W := ⟨_, rfl⟩
  have Ky := Lib.hid kn
  rw [hW] at BB KT HF Kx Ky
  rw [hg] at Ky gyb gyt gyx
  have Hgyb := Lib.hid gyb
  have Hgyt := Lib.hid gyt
  have Hgyx := Lib.hid gyx
  have HW := Lib.hid hW
  have HG := Lib.hid hg
  clear hW hg kn ba gyb gyt gyx
  go_upto_region 10 with fail
  rw [HW.out]
  try rw [HG.out]
  clear HW HG
  obtain ⟨q0, q1, q2, q3, q4, q5, q6, q7, q8, q9, q10⟩ := KT.out.c11
  have ql := KT.out.lt
  go_wp2_with fail
  refine (S3.out _).mono ?_
  rintro e U3 ⟨rfl, b⟩
  clear q0 q1 q2 q3 q4 q5 q6 q7 q8 q9 q10 ql
  replace BB := Lib.hid (below3 BB.out b)
  replace KT := Lib.hid (KT.out.below b KT.out.lt)
  replace HF := Lib.hid (HF.out.le b)
  replace Kx := Lib.hid (Kx.out.below b Kx.out.lt)
  replace Ky := Lib.hid (Ky.out.below b Ky.out.lt)
  clear b
  have kn := Bk.new U3 24 #[.int .i64 y0, .int .i64 y1, .int .i64 y2, .int .i64 y3, .int .i64 y4, .int .i64 y5, .int .i64 y6, .int .i64 y7, .int .i64 y8, .int .i64 y9, .int .i64 y10]
  have ba := (Below.refl U3.heap.size U3).alloc (Nat.le_refl _) (.cells #[.int .i64 y0, .int .i64 y1, .int .i64 y2, .int .i64 y3, .int .i64 y4, .int .i64 y5, .int .i64 y6, .int .i64 y7, .int .i64 y8, .int .i64 y9, .int .i64 y10] 24)
  have gzb : w.heap.size ≤ U3.heap.size := BB.out.size
  have gzt := KT.out.lt
  have gzx := Kx.out.lt
  replace BB := Lib.hid (below3 BB.out ba)
  replace KT := Lib.hid (KT.out.below ba KT.out.lt)
  replace HF := Lib.hid (HF.out.le ba)
  replace Kx := Lib.hid (Kx.out.below ba Kx.out.lt)
  replace Ky := Lib.hid (Ky.out.below ba Ky.out.lt)
  obtain ⟨gz, hg⟩ : ∃ g, U3.heap.size = g := ⟨_, rfl⟩
  obtain ⟨W3, hW⟩ : ∃ W, U3.alloc (.cells #[.int .i64 y0, .int .i64 y1, .int .i64 y2, .int .i64 y3, .int .i64 y4, .int .i64 y5, .int .i64 y6, .int .i64 y7, .int .i64 y8, .int .i64 y9, .int .i64 y10] 24) = W := ⟨_, rfl⟩
  have Kz := Lib.hid kn
  rw [hW] at BB KT HF Kx Ky Kz
  rw [hg] at Kz gzb gzt gzx
  have Hgzb := Lib.hid gzb
  have Hgzt := Lib.hid gzt
  have Hgzx := Lib.hid gzx
  have HW := Lib.hid hW
  have HG := Lib.hid hg
  clear hW hg kn ba gzb gzt gzx
  go_upto_region 11 with fail
  rw [HW.out]
  try rw [HG.out]
  clear HW HG
  obtain ⟨q0, q1, q2, q3, q4, q5, q6, q7, q8, q9, q10⟩ := Ky.out.c11
  have ql := Ky.out.lt
  obtain ⟨r0, r1, r2, r3, r4, r5, r6, r7, r8, r9, r10⟩ := Kz.out.c11
  have rl := Kz.out.lt
  have e1 := HE1.out
  have e2 := guard_task .neq
  go_upto_region 13 with fail
  clear e1 e2 q0 q1 q2 q3 q4 q5 q6 q7 q8 q9 q10 ql r0 r1 r2 r3 r4 r5 r6 r7 r8 r9 r10 rl
  obtain ⟨q0, q1, q2, q3, q4, q5, q6, q7, q8, q9, q10⟩ := Kx.out.c11
  have ql := Kx.out.lt
  go_wp2_with fail
  refine (S4.out _).mono ?_
  rintro e U4 ⟨rfl, b⟩
  clear q0 q1 q2 q3 q4 q5 q6 q7 q8 q9 q10 ql
  replace BB := Lib.hid (below3 BB.out b)
  replace KT := Lib.hid (KT.out.below b KT.out.lt)
  replace HF := Lib.hid (HF.out.le b)
  replace Kx := Lib.hid (Kx.out.below b Kx.out.lt)
  replace Ky := Lib.hid (Ky.out.below b Ky.out.lt)
  replace Kz := Lib.hid (Kz.out.below b Kz.out.lt)
  clear b
  have kn := Bk.new U4 24 #[.int .i64 p0, .int .i64 p1, .int .i64 p2, .int .i64 p3, .int .i64 p4, .int .i64 p5, .int .i64 p6, .int .i64 p7, .int .i64 p8, .int .i64 p9, .int .i64 p10]
  have ba := (Below.refl U4.heap.size U4).alloc (Nat.le_refl _) (.cells #[.int .i64 p0, .int .i64 p1, .int .i64 p2, .int .i64 p3, .int .i64 p4, .int .i64 p5, .int .i64 p6, .int .i64 p7, .int .i64 p8, .int .i64 p9, .int .i64 p10] 24)
  have gpb : w.heap.size ≤ U4.heap.size := BB.out.size
  have gpt := KT.out.lt
  have gpx := Kx.out.lt
  replace BB := Lib.hid (below3 BB.out ba)
  replace KT := Lib.hid (KT.out.below ba KT.out.lt)
  replace HF := Lib.hid (HF.out.le ba)
  replace Kx := Lib.hid (Kx.out.below ba Kx.out.lt)
  replace Ky := Lib.hid (Ky.out.below ba Ky.out.lt)
  replace Kz := Lib.hid (Kz.out.below ba Kz.out.lt)
  obtain ⟨gp, hg⟩ : ∃ g, U4.heap.size = g := ⟨_, rfl⟩
  obtain ⟨W4, hW⟩ : ∃ W, U4.alloc (.cells #[.int .i64 p0, .int .i64 p1, .int .i64 p2, .int .i64 p3, .int .i64 p4, .int .i64 p5, .int .i64 p6, .int .i64 p7, .int .i64 p8, .int .i64 p9, .int .i64 p10] 24) = W := ⟨_, rfl⟩
  have Kp := Lib.hid kn
  rw [hW] at BB KT HF Kx Ky Kz Kp
  rw [hg] at Kp gpb gpt gpx
  have Hgpb := Lib.hid gpb
  have Hgpt := Lib.hid gpt
  have Hgpx := Lib.hid gpx
  have HW := Lib.hid hW
  have HG := Lib.hid hg
  clear hW hg kn ba gpb gpt gpx
  go_upto_region 14 with fail
  rw [HW.out]
  try rw [HG.out]
  clear HW HG
  obtain ⟨q0, q1, q2, q3, q4, q5, q6, q7, q8, q9, q10⟩ := KT.out.c11
  have ql := KT.out.lt
  go_wp2_with fail
  refine (S5.out _).mono ?_
  rintro e U5 ⟨rfl, b⟩
  clear q0 q1 q2 q3 q4 q5 q6 q7 q8 q9 q10 ql
  replace BB := Lib.hid (below3 BB.out b)
  replace KT := Lib.hid (KT.out.below b KT.out.lt)
  replace HF := Lib.hid (HF.out.le b)
  replace Kx := Lib.hid (Kx.out.below b Kx.out.lt)
  replace Ky := Lib.hid (Ky.out.below b Ky.out.lt)
  replace Kz := Lib.hid (Kz.out.below b Kz.out.lt)
  replace Kp := Lib.hid (Kp.out.below b Kp.out.lt)
  clear b
  have kn := Bk.new U5 24 #[.int .i64 u0, .int .i64 u1, .int .i64 u2, .int .i64 u3, .int .i64 u4, .int .i64 u5, .int .i64 u6, .int .i64 u7, .int .i64 u8, .int .i64 u9, .int .i64 u10]
  have ba := (Below.refl U5.heap.size U5).alloc (Nat.le_refl _) (.cells #[.int .i64 u0, .int .i64 u1, .int .i64 u2, .int .i64 u3, .int .i64 u4, .int .i64 u5, .int .i64 u6, .int .i64 u7, .int .i64 u8, .int .i64 u9, .int .i64 u10] 24)
  have gub : w.heap.size ≤ U5.heap.size := BB.out.size
  have gut := KT.out.lt
  have gux := Kx.out.lt
  have gup := Kp.out.lt
  replace BB := Lib.hid (below3 BB.out ba)
  replace KT := Lib.hid (KT.out.below ba KT.out.lt)
  replace HF := Lib.hid (HF.out.le ba)
  replace Kx := Lib.hid (Kx.out.below ba Kx.out.lt)
  replace Ky := Lib.hid (Ky.out.below ba Ky.out.lt)
  replace Kz := Lib.hid (Kz.out.below ba Kz.out.lt)
  replace Kp := Lib.hid (Kp.out.below ba Kp.out.lt)
  obtain ⟨gu, hg⟩ : ∃ g, U5.heap.size = g := ⟨_, rfl⟩
  obtain ⟨W5, hW⟩ : ∃ W, U5.alloc (.cells #[.int .i64 u0, .int .i64 u1, .int .i64 u2, .int .i64 u3, .int .i64 u4, .int .i64 u5, .int .i64 u6, .int .i64 u7, .int .i64 u8, .int .i64 u9, .int .i64 u10] 24) = W := ⟨_, rfl⟩
  have Ku := Lib.hid kn
  rw [hW] at BB KT HF Kx Ky Kz Kp Ku
  rw [hg] at Ku gub gut gux gup
  have Hgub := Lib.hid gub
  have Hgut := Lib.hid gut
  have Hgux := Lib.hid gux
  have Hgup := Lib.hid gup
  have HW := Lib.hid hW
  have HG := Lib.hid hg
  clear hW hg kn ba gub gut gux gup
  go_upto_region 15 with fail
  rw [HW.out]
  try rw [HG.out]
  clear HW HG
  go_upto_region 18 with fail
  obtain ⟨q0, q1, q2, q3, q4, q5, q6, q7, q8, q9, q10⟩ := Ku.out.c11
  have ql := Ku.out.lt
  go_wp2_with fail
  refine (S6.out _).mono ?_
  rintro e U6 ⟨rfl, b⟩
  clear q0 q1 q2 q3 q4 q5 q6 q7 q8 q9 q10 ql
  replace BB := Lib.hid (below3 BB.out b)
  replace KT := Lib.hid (KT.out.below b KT.out.lt)
  replace HF := Lib.hid (HF.out.le b)
  replace Kx := Lib.hid (Kx.out.below b Kx.out.lt)
  replace Ky := Lib.hid (Ky.out.below b Ky.out.lt)
  replace Kz := Lib.hid (Kz.out.below b Kz.out.lt)
  replace Kp := Lib.hid (Kp.out.below b Kp.out.lt)
  replace Ku := Lib.hid (Ku.out.below b Ku.out.lt)
  clear b
  have n1 := bk_set11 Ku.out (.int .i64 p0) (.int .i64 p1) (.int .i64 p2) (.int .i64 p3) (.int .i64 p4) (.int .i64 p5) (.int .i64 p6) (.int .i64 p7) (.int .i64 p8) (.int .i64 p9) (.int .i64 p10)
  have n2 := far_set11 (g := gu) KT.out (Nat.ne_of_lt Hgut.out) (.int .i64 p0) (.int .i64 p1) (.int .i64 p2) (.int .i64 p3) (.int .i64 p4) (.int .i64 p5) (.int .i64 p6) (.int .i64 p7) (.int .i64 p8) (.int .i64 p9) (.int .i64 p10)
  have n3 := far_set11 (g := gu) Kx.out (Nat.ne_of_lt Hgux.out) (.int .i64 p0) (.int .i64 p1) (.int .i64 p2) (.int .i64 p3) (.int .i64 p4) (.int .i64 p5) (.int .i64 p6) (.int .i64 p7) (.int .i64 p8) (.int .i64 p9) (.int .i64 p10)
  have n4 := far_set11 (g := gu) Kp.out (Nat.ne_of_lt Hgup.out) (.int .i64 p0) (.int .i64 p1) (.int .i64 p2) (.int .i64 p3) (.int .i64 p4) (.int .i64 p5) (.int .i64 p6) (.int .i64 p7) (.int .i64 p8) (.int .i64 p9) (.int .i64 p10)
  have n5 := below_set11 (g := gu) BB.out Hgub.out (.int .i64 p0) (.int .i64 p1) (.int .i64 p2) (.int .i64 p3) (.int .i64 p4) (.int .i64 p5) (.int .i64 p6) (.int .i64 p7) (.int .i64 p8) (.int .i64 p9) (.int .i64 p10)
  obtain ⟨q0, q1, q2, q3, q4, q5, q6, q7, q8, q9, q10⟩ := Ku.out.c11
  have ql := Ku.out.lt
  obtain ⟨f0, f1, f2, f3, f4, f5, f6, f7, f8, f9, f10⟩ := Ku.out.f11
  obtain ⟨X6, hX⟩ : ∃ X, set11 U6 gu (.int .i64 p0) (.int .i64 p1) (.int .i64 p2) (.int .i64 p3) (.int .i64 p4) (.int .i64 p5) (.int .i64 p6) (.int .i64 p7) (.int .i64 p8) (.int .i64 p9) (.int .i64 p10) = X := ⟨_, rfl⟩
  rw [hX] at n1 n2 n3 n4 n5
  unfold set11 at hX
  have HX := Lib.hid hX
  replace Ku := Lib.hid n1
  replace KT := Lib.hid n2
  replace Kx := Lib.hid n3
  replace Kp := Lib.hid n4
  replace BB := Lib.hid n5
  clear n1 n2 n3 n4 n5 hX Ky Kz HF
  go_upto_region 19 with fail
  rw [HX.out]
  clear HX q0 q1 q2 q3 q4 q5 q6 q7 q8 q9 q10 ql f0 f1 f2 f3 f4 f5 f6 f7 f8 f9 f10
  obtain ⟨q0, q1, q2, q3, q4, q5, q6, q7, q8, q9, q10⟩ := Kp.out.c11
  have ql := Kp.out.lt
  obtain ⟨r0, r1, r2, r3, r4, r5, r6, r7, r8, r9, r10⟩ := Ku.out.c11
  have rl := Ku.out.lt
  have e1 := HE2.out
  have e2 := guard_task .neq
  go_upto_region 21 with fail
  clear e1 e2 q0 q1 q2 q3 q4 q5 q6 q7 q8 q9 q10 ql r0 r1 r2 r3 r4 r5 r6 r7 r8 r9 r10 rl
  have n1 : Bk ((((X6.setCell ⟨gx, 5, none⟩ (.int .i64 k0)).setCell ⟨gx, 6, none⟩ (.int .i64 k1)).setCell ⟨gx, 7, none⟩ (.int .i64 k2)).setCell ⟨gx, 8, none⟩ (.int .i64 k3)) gx 24 #[.int .i64 id, .int .i64 tn, .int .i64 pg, .int .i64 pc, .int .i64 un, .int .i64 k0, .int .i64 k1, .int .i64 k2, .int .i64 k3, .int .i64 st, .int .i64 rn] := (((Kx.out.set_ 5 (.int .i64 k0)).set_ 6 (.int .i64 k1)).set_ 7 (.int .i64 k2)).set_ 8 (.int .i64 k3)
  have n2 := (((KT.out.far (p := ⟨gx, 5, none⟩) (Nat.ne_of_lt Hgxt.out) (.int .i64 k0)).far (p := ⟨gx, 6, none⟩) (Nat.ne_of_lt Hgxt.out) (.int .i64 k1)).far (p := ⟨gx, 7, none⟩) (Nat.ne_of_lt Hgxt.out) (.int .i64 k2)).far (p := ⟨gx, 8, none⟩) (Nat.ne_of_lt Hgxt.out) (.int .i64 k3)
  have n3 := (((BB.out.setCell (p := ⟨gx, 5, none⟩) Hgxb.out (.int .i64 k0)).setCell (p := ⟨gx, 6, none⟩) Hgxb.out (.int .i64 k1)).setCell (p := ⟨gx, 7, none⟩) Hgxb.out (.int .i64 k2)).setCell (p := ⟨gx, 8, none⟩) Hgxb.out (.int .i64 k3)
  obtain ⟨q0, q1, q2, q3, q4, q5, q6, q7, q8, q9, q10⟩ := Kx.out.c11
  have ql := Kx.out.lt
  obtain ⟨r0, r1, r2, r3, r4, r5, r6, r7, r8, r9, r10⟩ := KT.out.c11
  have rl := KT.out.lt
  obtain ⟨f0, f1, f2, f3, f4, f5, f6, f7, f8, f9, f10⟩ := Kx.out.f11
  obtain ⟨X7, hX⟩ : ∃ X, (((X6.setCell ⟨gx, 5, none⟩ (.int .i64 k0)).setCell ⟨gx, 6, none⟩ (.int .i64 k1)).setCell ⟨gx, 7, none⟩ (.int .i64 k2)).setCell ⟨gx, 8, none⟩ (.int .i64 k3) = X := ⟨_, rfl⟩
  rw [hX] at n1 n2 n3
  have HX := Lib.hid hX
  replace Kx := Lib.hid n1
  replace KT := Lib.hid n2
  replace BB := Lib.hid n3
  clear n1 n2 n3 hX Kp Ku
  go_upto_region 22 with fail
  rw [HX.out]
  clear HX q0 q1 q2 q3 q4 q5 q6 q7 q8 q9 q10 ql r0 r1 r2 r3 r4 r5 r6 r7 r8 r9 r10 rl f0 f1 f2 f3 f4 f5 f6 f7 f8 f9 f10
  obtain ⟨q0, q1, q2, q3, q4, q5, q6, q7, q8, q9, q10⟩ := Kx.out.c11
  have ql := Kx.out.lt
  obtain ⟨r0, r1, r2, r3, r4, r5, r6, r7, r8, r9, r10⟩ := KT.out.c11
  have rl := KT.out.lt
  have e1 := HE3.out
  have e2 := guard_task .eql
  go_wp2_with fail
  go_ret
  exact ⟨rfl, BB.out⟩

end Go.Proofs.YtojaaoeflajdnaaDoor

/-
  The walk of the law LifeKeeps of layer 12: what may not be kept.
-/
import Derived.Test.YtojaaoeflajdnaaDoorTke
import Derived.Test.YtojaaoeflajdnaaDoorTkj
namespace Go.Proofs.YtojaaoeflajdnaaDoor
open Go.RowKit

set_option maxRecDepth 100000 in
set_option maxHeartbeats 8000000 in
theorem lk_err1 (id tn pg pc un k0 k1 k2 k3 st rn s too a b : Int) (w : World) (hF : Fol w) (h1 : keepR ⟨id, tn, pg, pc, un, k0, k1, k2, k3, st, rn⟩ s a = (1, zT)) :
    Calls Tryd.prog 8 #[.agg #[.int .i64 id, .int .i64 tn, .int .i64 pg, .int .i64 pc, .int .i64 un, .int .i64 k0, .int .i64 k1, .int .i64 k2, .int .i64 k3, .int .i64 st, .int .i64 rn], .int .i64 s, .int .i64 too, .int .i64 a, .int .i64 b] w (TrueAns w) := by
  have S1 := Lib.hid (fun (W : World) => h1 ▸ keep_any ⟨id, tn, pg, pc, un, k0, k1, k2, k3, st, rn⟩ s a W)
  have E1 := eql_task zT
  unfold zT at S1
  unfold zT tc at E1
  dsimp only at E1
  have HE1 := Lib.hid E1
  clear h1 E1
  unfold tc at S1
  dsimp only at S1
  have kb := Bk.new w 24 #[.int .i64 id, .int .i64 tn, .int .i64 pg, .int .i64 pc, .int .i64 un, .int .i64 k0, .int .i64 k1, .int .i64 k2, .int .i64 k3, .int .i64 st, .int .i64 rn]
  have bb := (Below.refl w.heap.size w).alloc (Nat.le_refl _) (.cells #[.int .i64 id, .int .i64 tn, .int .i64 pg, .int .i64 pc, .int .i64 un, .int .i64 k0, .int .i64 k1, .int .i64 k2, .int .i64 k3, .int .i64 st, .int .i64 rn] 24)
  obtain ⟨V, hV⟩ : ∃ V, w.alloc (.cells #[.int .i64 id, .int .i64 tn, .int .i64 pg, .int .i64 pc, .int .i64 un, .int .i64 k0, .int .i64 k1, .int .i64 k2, .int .i64 k3, .int .i64 st, .int .i64 rn] 24) = V := ⟨_, rfl⟩
  have hf := hF.le bb
  rw [hV] at kb bb hf
  have HV := Lib.hid hV
  have KT := Lib.hid kb
  have BB := Lib.hid bb
  have HF := Lib.hid hf
  clear kb bb hf hV hF
  go_enter Tryd.func8, Tryd.ntmps8
  go_upto_region 1 with fail
  rw [HV.out]
  clear HV
  go_wp2_with fail
  refine (live_any _ HF.out).mono ?_
  rintro e w1 ⟨rfl, b1⟩
  replace BB := Lib.hid (below3 BB.out b1)
  replace KT := Lib.hid (KT.out.below b1 KT.out.lt)
  replace HF := Lib.hid (HF.out.le b1)
  clear b1
  obtain ⟨q0, q1, q2, q3, q4, q5, q6, q7, q8, q9, q10⟩ := KT.out.c11
  have ql := KT.out.lt
  go_wp2_with fail
  refine (S1.out _).mono ?_
  rintro e U1 ⟨rfl, b⟩
  clear q0 q1 q2 q3 q4 q5 q6 q7 q8 q9 q10 ql
  replace BB := Lib.hid (below3 BB.out b)
  replace KT := Lib.hid (KT.out.below b KT.out.lt)
  replace HF := Lib.hid (HF.out.le b)
  clear b
  have kn := Bk.new U1 24 #[.int .i64 0, .int .i64 0, .int .i64 0, .int .i64 0, .int .i64 0, .int .i64 0, .int .i64 0, .int .i64 0, .int .i64 0, .int .i64 0, .int .i64 0]
  have ba := (Below.refl U1.heap.size U1).alloc (Nat.le_refl _) (.cells #[.int .i64 0, .int .i64 0, .int .i64 0, .int .i64 0, .int .i64 0, .int .i64 0, .int .i64 0, .int .i64 0, .int .i64 0, .int .i64 0, .int .i64 0] 24)
  have gxb : w.heap.size ≤ U1.heap.size := BB.out.size
  have gxt := KT.out.lt
  replace BB := Lib.hid (below3 BB.out ba)
  replace KT := Lib.hid (KT.out.below ba KT.out.lt)
  replace HF := Lib.hid (HF.out.le ba)
  obtain ⟨gx, hg⟩ : ∃ g, U1.heap.size = g := ⟨_, rfl⟩
  obtain ⟨W1, hW⟩ : ∃ W, U1.alloc (.cells #[.int .i64 0, .int .i64 0, .int .i64 0, .int .i64 0, .int .i64 0, .int .i64 0, .int .i64 0, .int .i64 0, .int .i64 0, .int .i64 0, .int .i64 0] 24) = W := ⟨_, rfl⟩
  have Kx := Lib.hid kn
  rw [hW] at BB KT HF Kx
  rw [hg] at Kx gxb gxt
  have Hgxb := Lib.hid gxb
  have Hgxt := Lib.hid gxt
  have HW := Lib.hid hW
  have HG := Lib.hid hg
  clear hW hg kn ba gxb gxt
  go_upto_region 5 with fail
  rw [HW.out]
  try rw [HG.out]
  clear HW HG
  obtain ⟨q0, q1, q2, q3, q4, q5, q6, q7, q8, q9, q10⟩ := Kx.out.c11
  have ql := Kx.out.lt
  have q1 := HE1.out
  have q2 := guard_task .eql
  go_wp2_with fail
  go_ret
  exact ⟨rfl, BB.out⟩

set_option maxRecDepth 100000 in
set_option maxHeartbeats 8000000 in
theorem lk_err9 (id tn pg pc un k0 k1 k2 k3 st rn s too a b : Int) (w : World) (hF : Fol w) (h1 : keepR ⟨id, tn, pg, pc, un, k0, k1, k2, k3, st, rn⟩ s a = (9, zT)) :
    Calls Tryd.prog 8 #[.agg #[.int .i64 id, .int .i64 tn, .int .i64 pg, .int .i64 pc, .int .i64 un, .int .i64 k0, .int .i64 k1, .int .i64 k2, .int .i64 k3, .int .i64 st, .int .i64 rn], .int .i64 s, .int .i64 too, .int .i64 a, .int .i64 b] w (TrueAns w) := by
  have S1 := Lib.hid (fun (W : World) => h1 ▸ keep_any ⟨id, tn, pg, pc, un, k0, k1, k2, k3, st, rn⟩ s a W)
  have E1 := eql_task zT
  unfold zT at S1
  unfold zT tc at E1
  dsimp only at E1
  have HE1 := Lib.hid E1
  clear h1 E1
  unfold tc at S1
  dsimp only at S1
  have kb := Bk.new w 24 #[.int .i64 id, .int .i64 tn, .int .i64 pg, .int .i64 pc, .int .i64 un, .int .i64 k0, .int .i64 k1, .int .i64 k2, .int .i64 k3, .int .i64 st, .int .i64 rn]
  have bb := (Below.refl w.heap.size w).alloc (Nat.le_refl _) (.cells #[.int .i64 id, .int .i64 tn, .int .i64 pg, .int .i64 pc, .int .i64 un, .int .i64 k0, .int .i64 k1, .int .i64 k2, .int .i64 k3, .int .i64 st, .int .i64 rn] 24)
  obtain ⟨V, hV⟩ : ∃ V, w.alloc (.cells #[.int .i64 id, .int .i64 tn, .int .i64 pg, .int .i64 pc, .int .i64 un, .int .i64 k0, .int .i64 k1, .int .i64 k2, .int .i64 k3, .int .i64 st, .int .i64 rn] 24) = V := ⟨_, rfl⟩
  have hf := hF.le bb
  rw [hV] at kb bb hf
  have HV := Lib.hid hV
  have KT := Lib.hid kb
  have BB := Lib.hid bb
  have HF := Lib.hid hf
  clear kb bb hf hV hF
  go_enter Tryd.func8, Tryd.ntmps8
  go_upto_region 1 with fail
  rw [HV.out]
  clear HV
  go_wp2_with fail
  refine (live_any _ HF.out).mono ?_
  rintro e w1 ⟨rfl, b1⟩
  replace BB := Lib.hid (below3 BB.out b1)
  replace KT := Lib.hid (KT.out.below b1 KT.out.lt)
  replace HF := Lib.hid (HF.out.le b1)
  clear b1
  obtain ⟨q0, q1, q2, q3, q4, q5, q6, q7, q8, q9, q10⟩ := KT.out.c11
  have ql := KT.out.lt
  go_wp2_with fail
  refine (S1.out _).mono ?_
  rintro e U1 ⟨rfl, b⟩
  clear q0 q1 q2 q3 q4 q5 q6 q7 q8 q9 q10 ql
  replace BB := Lib.hid (below3 BB.out b)
  replace KT := Lib.hid (KT.out.below b KT.out.lt)
  replace HF := Lib.hid (HF.out.le b)
  clear b
  have kn := Bk.new U1 24 #[.int .i64 0, .int .i64 0, .int .i64 0, .int .i64 0, .int .i64 0, .int .i64 0, .int .i64 0, .int .i64 0, .int .i64 0, .int .i64 0, .int .i64 0]
  have ba := (Below.refl U1.heap.size U1).alloc (Nat.le_refl _) (.cells #[.int .i64 0, .int .i64 0, .int .i64 0, .int .i64 0, .int .i64 0, .int .i64 0, .int .i64 0, .int .i64 0, .int .i64 0, .int .i64 0, .int .i64 0] 24)
  have gxb : w.heap.size ≤ U1.heap.size := BB.out.size
  have gxt := KT.out.lt
  replace BB := Lib.hid (below3 BB.out ba)
  replace KT := Lib.hid (KT.out.below ba KT.out.lt)
  replace HF := Lib.hid (HF.out.le ba)
  obtain ⟨gx, hg⟩ : ∃ g, U1.heap.size = g := ⟨_, rfl⟩
  obtain ⟨W1, hW⟩ : ∃ W, U1.alloc (.cells #[.int .i64 0, .int .i64 0, .int .i64 0, .int .i64 0, .int .i64 0, .int .i64 0, .int .i64 0, .int .i64 0, .int .i64 0, .int .i64 0, .int .i64 0] 24) = W := ⟨_, rfl⟩
  have Kx := Lib.hid kn
  rw [hW] at BB KT HF Kx
  rw [hg] at Kx gxb gxt
  have Hgxb := Lib.hid gxb
  have Hgxt := Lib.hid gxt
  have HW := Lib.hid hW
  have HG := Lib.hid hg
  clear hW hg kn ba gxb gxt
  go_upto_region 5 with fail
  rw [HW.out]
  try rw [HG.out]
  clear HW HG
  obtain ⟨q0, q1, q2, q3, q4, q5, q6, q7, q8, q9, q10⟩ := Kx.out.c11
  have ql := Kx.out.lt
  have q1 := HE1.out
  have q2 := guard_task .eql
  go_wp2_with fail
  go_ret
  exact ⟨rfl, BB.out⟩

end Go.Proofs.YtojaaoeflajdnaaDoor

/-
  Layer 19: the law EntryConfigs.
-/
import Derived.Test.YtpfnoohcilefhaaElv
import Derived.Test.YtpfnoohcilefhaaEp8
import Derived.Test.YtpfnoohcilefhaaHr
namespace Go.Proofs.Ytpfnoohcilefhaa
open Go.RowKit

set_option maxRecDepth 100000 in
set_option maxHeartbeats 8000000 in
theorem leconfigs_any (x y : Cf) (a b : CfA) (w : World) (hx : CfR w x a) (hy : CfR w y b) :
    Calls Try.prog 3 #[.agg (cfc x a), .agg (cfc y b)] w (RetB (.bool true) w) := by
  obtain ⟨wk, cp, bd, ws, qs, P, tk, fd, sm⟩ := x
  obtain ⟨wky, cpy, bdy, wsy, qsy, Py, tky, fdy, smy⟩ := y
  obtain ⟨A, n, c, B, m, d, F, q, e, G, r, h⟩ := a
  obtain ⟨Ay, ny, cy, By, my, dy, Fy, qy, ey, Gy, ry, hy⟩ := b
  have HX := Lib.hid hx
  have HY := Lib.hid hy
  clear hx hy
  dsimp only [cfc]
  obtain ⟨kb0, kb1, hb0⟩ := lies2 w #[.int .i64 wk, .int .i64 cp, .int .i64 bd, .slice A n c, .slice B m d, .slice F q e, .int .i64 tk, .int .i64 fd, .slice G r h] #[.int .i64 wky, .int .i64 cpy, .int .i64 bdy, .slice Ay ny cy, .slice By my dy, .slice Fy qy ey, .int .i64 tky, .int .i64 fdy, .slice Gy ry hy] 25 25
  obtain ⟨V, hV⟩ : ∃ V, (w.alloc (.cells #[.int .i64 wk, .int .i64 cp, .int .i64 bd, .slice A n c, .slice B m d, .slice F q e, .int .i64 tk, .int .i64 fd, .slice G r h] 25)).alloc (.cells #[.int .i64 wky, .int .i64 cpy, .int .i64 bdy, .slice Ay ny cy, .slice By my dy, .slice Fy qy ey, .int .i64 tky, .int .i64 fdy, .slice Gy ry hy] 25) = V := ⟨_, rfl⟩
  rw [hV] at kb0 kb1 hb0
  have HV := Lib.hid hV
  have BB := Lib.hid hb0
  have KX := Lib.hid kb0
  have KY := Lib.hid kb1
  clear hV hb0 kb0 kb1
  cases fx : fewCf ⟨wk, cp, bd, ws, qs, P, tk, fd, sm⟩
  · have HFX := Lib.hid fx
    clear fx
    go_enter Try.func3, Try.ntmps3
    go_upto_region 1 with fail
    rw [HV.out]
    clear HV
    go_wp2_with fail
    refine (live19_any _).mono ?_
    rintro e U0 ⟨rfl, b0⟩
    replace BB := Lib.hid (below3 BB.out b0)
    replace KX := Lib.hid (KX.out.below b0 KX.out.lt)
    replace KY := Lib.hid (KY.out.below b0 KY.out.lt)
    clear b0
    obtain ⟨x0, x1, x2, x3, x4, x5, x6, x7, x8⟩ := KX.out.c9e
    have lX := KX.out.lt
    obtain ⟨y0, y1, y2, y3, y4, y5, y6, y7, y8⟩ := KY.out.c9e
    have lY := KY.out.lt
    go_wp2_with fail
    refine (fewCf_any ⟨wk, cp, bd, ws, qs, P, tk, fd, sm⟩ ⟨A, n, c, B, m, d, F, q, e, G, r, h⟩ _ (HX.out.below BB.out)).mono ?_
    rw [HFX.out]
    rintro e U1 ⟨rfl, bf⟩
    clear x0 x1 x2 x3 x4 x5 x6 x7 x8 y0 y1 y2 y3 y4 y5 y6 y7 y8 lX lY
    replace BB := Lib.hid (below3 BB.out bf)
    replace KX := Lib.hid (KX.out.below bf KX.out.lt)
    replace KY := Lib.hid (KY.out.below bf KY.out.lt)
    clear bf
    obtain ⟨x0, x1, x2, x3, x4, x5, x6, x7, x8⟩ := KX.out.c9e
    have lX := KX.out.lt
    obtain ⟨y0, y1, y2, y3, y4, y5, y6, y7, y8⟩ := KY.out.c9e
    have lY := KY.out.lt
    go_wp2_with fail
    go_ret
    exact ⟨rfl, BB.out⟩
  · cases fy : fewCf ⟨wky, cpy, bdy, wsy, qsy, Py, tky, fdy, smy⟩
    · have HFX := Lib.hid fx
      have HFY := Lib.hid fy
      clear fx fy
      go_enter Try.func3, Try.ntmps3
      go_upto_region 1 with fail
      rw [HV.out]
      clear HV
      go_wp2_with fail
      refine (live19_any _).mono ?_
      rintro e U0 ⟨rfl, b0⟩
      replace BB := Lib.hid (below3 BB.out b0)
      replace KX := Lib.hid (KX.out.below b0 KX.out.lt)
      replace KY := Lib.hid (KY.out.below b0 KY.out.lt)
      clear b0
      obtain ⟨x0, x1, x2, x3, x4, x5, x6, x7, x8⟩ := KX.out.c9e
      have lX := KX.out.lt
      obtain ⟨y0, y1, y2, y3, y4, y5, y6, y7, y8⟩ := KY.out.c9e
      have lY := KY.out.lt
      go_wp2_with fail
      refine (fewCf_any ⟨wk, cp, bd, ws, qs, P, tk, fd, sm⟩ ⟨A, n, c, B, m, d, F, q, e, G, r, h⟩ _ (HX.out.below BB.out)).mono ?_
      rw [HFX.out]
      rintro e U1 ⟨rfl, bf⟩
      clear x0 x1 x2 x3 x4 x5 x6 x7 x8 y0 y1 y2 y3 y4 y5 y6 y7 y8 lX lY
      replace BB := Lib.hid (below3 BB.out bf)
      replace KX := Lib.hid (KX.out.below bf KX.out.lt)
      replace KY := Lib.hid (KY.out.below bf KY.out.lt)
      clear bf
      obtain ⟨x0, x1, x2, x3, x4, x5, x6, x7, x8⟩ := KX.out.c9e
      have lX := KX.out.lt
      obtain ⟨y0, y1, y2, y3, y4, y5, y6, y7, y8⟩ := KY.out.c9e
      have lY := KY.out.lt
      go_wp2_with fail
      refine (fewCf_any ⟨wky, cpy, bdy, wsy, qsy, Py, tky, fdy, smy⟩ ⟨Ay, ny, cy, By, my, dy, Fy, qy, ey, Gy, ry, hy⟩ _ (HY.out.below BB.out)).mono ?_
      rw [HFY.out]
      rintro e U2 ⟨rfl, bf⟩
      clear x0 x1 x2 x3 x4 x5 x6 x7 x8 y0 y1 y2 y3 y4 y5 y6 y7 y8 lX lY
      replace BB := Lib.hid (below3 BB.out bf)
      replace KX := Lib.hid (KX.out.below bf KX.out.lt)
      replace KY := Lib.hid (KY.out.below bf KY.out.lt)
      clear bf
      obtain ⟨x0, x1, x2, x3, x4, x5, x6, x7, x8⟩ := KX.out.c9e
      have lX := KX.out.lt
      obtain ⟨y0, y1, y2, y3, y4, y5, y6, y7, y8⟩ := KY.out.c9e
      have lY := KY.out.lt
      go_wp2_with fail
      go_ret
      exact ⟨rfl, BB.out⟩
    · have HFX := Lib.hid fx
      have HFY := Lib.hid fy
      have hwn : ws.length ≤ 1000 := by have z := fx; unfold fewCf at z; simp at z; omega
      have HWN := Lib.hid hwn
      obtain ⟨ce, hce⟩ : ∃ c, cfgR ⟨wk, cp, bd, ws, qs, P, tk, fd, sm⟩ = c := ⟨_, rfl⟩
      obtain ⟨sv, hsv⟩ : ∃ s, sameCf ⟨wk, cp, bd, ws, qs, P, tk, fd, sm⟩ ⟨wky, cpy, bdy, wsy, qsy, Py, tky, fdy, smy⟩ = s := ⟨_, rfl⟩
      have HCE := Lib.hid hce
      have HSV := Lib.hid hsv
      clear fx fy hwn hce hsv
      go_enter Try.func3, Try.ntmps3
      go_upto_region 1 with fail
      rw [HV.out]
      clear HV
      go_wp2_with fail
      refine (live19_any _).mono ?_
      rintro e U0 ⟨rfl, b0⟩
      replace BB := Lib.hid (below3 BB.out b0)
      replace KX := Lib.hid (KX.out.below b0 KX.out.lt)
      replace KY := Lib.hid (KY.out.below b0 KY.out.lt)
      clear b0
      obtain ⟨x0, x1, x2, x3, x4, x5, x6, x7, x8⟩ := KX.out.c9e
      have lX := KX.out.lt
      obtain ⟨y0, y1, y2, y3, y4, y5, y6, y7, y8⟩ := KY.out.c9e
      have lY := KY.out.lt
      go_wp2_with fail
      refine (fewCf_any ⟨wk, cp, bd, ws, qs, P, tk, fd, sm⟩ ⟨A, n, c, B, m, d, F, q, e, G, r, h⟩ _ (HX.out.below BB.out)).mono ?_
      rw [HFX.out]
      rintro e U1 ⟨rfl, bf⟩
      clear x0 x1 x2 x3 x4 x5 x6 x7 x8 y0 y1 y2 y3 y4 y5 y6 y7 y8 lX lY
      replace BB := Lib.hid (below3 BB.out bf)
      replace KX := Lib.hid (KX.out.below bf KX.out.lt)
      replace KY := Lib.hid (KY.out.below bf KY.out.lt)
      clear bf
      obtain ⟨x0, x1, x2, x3, x4, x5, x6, x7, x8⟩ := KX.out.c9e
      have lX := KX.out.lt
      obtain ⟨y0, y1, y2, y3, y4, y5, y6, y7, y8⟩ := KY.out.c9e
      have lY := KY.out.lt
      go_wp2_with fail
      refine (fewCf_any ⟨wky, cpy, bdy, wsy, qsy, Py, tky, fdy, smy⟩ ⟨Ay, ny, cy, By, my, dy, Fy, qy, ey, Gy, ry, hy⟩ _ (HY.out.below BB.out)).mono ?_
      rw [HFY.out]
      rintro e U2 ⟨rfl, bf⟩
      clear x0 x1 x2 x3 x4 x5 x6 x7 x8 y0 y1 y2 y3 y4 y5 y6 y7 y8 lX lY
      replace BB := Lib.hid (below3 BB.out bf)
      replace KX := Lib.hid (KX.out.below bf KX.out.lt)
      replace KY := Lib.hid (KY.out.below bf KY.out.lt)
      clear bf
      obtain ⟨x0, x1, x2, x3, x4, x5, x6, x7, x8⟩ := KX.out.c9e
      have lX := KX.out.lt
      obtain ⟨y0, y1, y2, y3, y4, y5, y6, y7, y8⟩ := KY.out.c9e
      have lY := KY.out.lt
      go_upto_region 4 with fail
      clear x0 x1 x2 x3 x4 x5 x6 x7 x8 y0 y1 y2 y3 y4 y5 y6 y7 y8 lX lY
      refine wp_region_held (S := fun U => Bk U w.heap.size 25 #[.int .i64 wk, .int .i64 cp, .int .i64 bd, .slice A n c, .slice B m d, .slice F q e, .int .i64 tk, .int .i64 fd, .slice G r h] ∧ Bk U (w.heap.size + 1) 25 #[.int .i64 wky, .int .i64 cpy, .int .i64 bdy, .slice Ay ny cy, .slice By my dy, .slice Fy qy ey, .int .i64 tky, .int .i64 fdy, .slice Gy ry hy]) (by kernel_rfl) ?_
      change wpAnyH _ _ _ _ _ _ _ _ (World.drew U2)
      have bd := (Below.refl U2.heap.size U2).drew
      have hS0 := And.intro (KX.out.below bd KX.out.lt) (KY.out.below bd KY.out.lt)
      replace BB := Lib.hid (below3 BB.out bd)
      generalize U2.drew = V0 at hS0 BB ⊢
      clear bd KX KY
      refine take_at (i := 0) (d := 16) (v := .bool true) rfl rfl (by kernel_rfl) (by kernel_rfl) (by kernel_rfl) (fun _ _ _ h => h) (.inl ⟨by kernel_rfl, fun U hU => by go_simp⟩) hS0 ?_
      simp only [Act.put, List.setIfInBounds_toArray, List.set_cons_zero, List.set_cons_succ]
      refine take_at (i := 1) (d := 17) (v := .bool true) rfl rfl (by kernel_rfl) (by kernel_rfl) (by kernel_rfl) (fun _ _ _ h => h) (.inl ⟨by kernel_rfl, fun U hU => by go_simp⟩) hS0 ?_
      simp only [Act.put, List.setIfInBounds_toArray, List.set_cons_zero, List.set_cons_succ]
      refine take_at (i := 2) (d := 18) (v := .agg #[.int .i64 wk, .int .i64 cp, .int .i64 bd, .slice A n c, .slice B m d, .slice F q e, .int .i64 tk, .int .i64 fd, .slice G r h]) rfl rfl (by kernel_rfl) (by kernel_rfl) (by kernel_rfl) (fun _ _ _ h => h) (.inl ⟨by kernel_rfl, fun U hU => by obtain ⟨k1, k2⟩ := hU; obtain ⟨x0, x1, x2, x3, x4, x5, x6, x7, x8⟩ := k1.c9e; have lX := k1.lt; go_simp⟩) hS0 ?_
      simp only [Act.put, List.setIfInBounds_toArray, List.set_cons_zero, List.set_cons_succ]
      refine take_at (i := 4) (d := 20) (v := .agg #[.int .i64 wk, .int .i64 cp, .int .i64 bd, .slice A n c, .slice B m d, .slice F q e, .int .i64 tk, .int .i64 fd, .slice G r h]) rfl rfl (by kernel_rfl) (by kernel_rfl) (by kernel_rfl) (fun _ _ _ h => h) (.inl ⟨by kernel_rfl, fun U hU => by obtain ⟨k1, k2⟩ := hU; obtain ⟨x0, x1, x2, x3, x4, x5, x6, x7, x8⟩ := k1.c9e; have lX := k1.lt; go_simp⟩) hS0 ?_
      simp only [Act.put, List.setIfInBounds_toArray, List.set_cons_zero, List.set_cons_succ]
      refine wpAnyH_all (rs := [3]) (by kernel_rfl) (by simp) ?_
      intro i hi
      simp only [List.mem_cons, List.not_mem_nil, or_false] at hi
      subst hi
      unfold wpOp
      go_simp
      left
      refine (config_en ⟨wk, cp, bd, ws, qs, P, tk, fd, sm⟩ ⟨A, n, c, B, m, d, F, q, e, G, r, h⟩ _ (HX.out.below BB.out) HWN.out).mono ?_
      rw [HCE.out]
      rintro e V1 ⟨rfl, bc⟩
      have hS1 := And.intro (hS0.1.below bc hS0.1.lt) (hS0.2.below bc hS0.2.lt)
      refine ⟨hS1, ?_⟩
      replace BB := Lib.hid (below3 BB.out bc)
      clear hS0 bc
      have hS0 := hS1
      clear hS1
      try simp only [Act.put, List.setIfInBounds_toArray, List.set_cons_zero, List.set_cons_succ]
      refine wpAnyH_all (rs := [5]) (by kernel_rfl) (by simp) ?_
      intro i hi
      simp only [List.mem_cons, List.not_mem_nil, or_false] at hi
      subst hi
      unfold wpOp
      go_simp
      left
      refine (rconfig_any ⟨wk, cp, bd, ws, qs, P, tk, fd, sm⟩ ⟨A, n, c, B, m, d, F, q, e, G, r, h⟩ _ (HX.out.below BB.out) HWN.out).mono ?_
      rw [HCE.out]
      rintro e V2 ⟨rfl, bc⟩
      have hS1 := And.intro (hS0.1.below bc hS0.1.lt) (hS0.2.below bc hS0.2.lt)
      refine ⟨hS1, ?_⟩
      replace BB := Lib.hid (below3 BB.out bc)
      clear hS0 bc
      have hS0 := hS1
      clear hS1
      try simp only [Act.put, List.setIfInBounds_toArray, List.set_cons_zero, List.set_cons_succ]
      refine take_at (i := 6) (d := 22) (v := .bool true) rfl rfl (by kernel_rfl) (by kernel_rfl) (by kernel_rfl) (fun _ _ _ h => h) (.inl ⟨by kernel_rfl, fun U hU => by go_simp⟩) hS0 ?_
      simp only [Act.put, List.setIfInBounds_toArray, List.set_cons_zero, List.set_cons_succ]
      refine take_at (i := 7) (d := 23) (v := .bool true) rfl rfl (by kernel_rfl) (by kernel_rfl) (by kernel_rfl) (fun _ _ _ h => h) (.inl ⟨by kernel_rfl, fun U hU => by go_simp⟩) hS0 ?_
      simp only [Act.put, List.setIfInBounds_toArray, List.set_cons_zero, List.set_cons_succ]
      refine take_at (i := 8) (d := 24) (v := .bool true) rfl rfl (by kernel_rfl) (by kernel_rfl) (by kernel_rfl) (fun _ _ _ h => h) (.inl ⟨by kernel_rfl, fun U hU => by go_simp⟩) hS0 ?_
      simp only [Act.put, List.setIfInBounds_toArray, List.set_cons_zero, List.set_cons_succ]
      refine take_at (i := 9) (d := 25) (v := .agg #[.int .i64 wk, .int .i64 cp, .int .i64 bd, .slice A n c, .slice B m d, .slice F q e, .int .i64 tk, .int .i64 fd, .slice G r h]) rfl rfl (by kernel_rfl) (by kernel_rfl) (by kernel_rfl) (fun _ _ _ h => h) (.inl ⟨by kernel_rfl, fun U hU => by obtain ⟨k1, k2⟩ := hU; obtain ⟨x0, x1, x2, x3, x4, x5, x6, x7, x8⟩ := k1.c9e; have lX := k1.lt; go_simp⟩) hS0 ?_
      simp only [Act.put, List.setIfInBounds_toArray, List.set_cons_zero, List.set_cons_succ]
      refine take_at (i := 10) (d := 26) (v := .agg #[.int .i64 wky, .int .i64 cpy, .int .i64 bdy, .slice Ay ny cy, .slice By my dy, .slice Fy qy ey, .int .i64 tky, .int .i64 fdy, .slice Gy ry hy]) rfl rfl (by kernel_rfl) (by kernel_rfl) (by kernel_rfl) (fun _ _ _ h => h) (.inl ⟨by kernel_rfl, fun U hU => by obtain ⟨k1, k2⟩ := hU; obtain ⟨y0, y1, y2, y3, y4, y5, y6, y7, y8⟩ := k2.c9e; have lY := k2.lt; go_simp⟩) hS0 ?_
      simp only [Act.put, List.setIfInBounds_toArray, List.set_cons_zero, List.set_cons_succ]
      refine take_at (i := 12) (d := 28) (v := .agg #[.int .i64 wk, .int .i64 cp, .int .i64 bd, .slice A n c, .slice B m d, .slice F q e, .int .i64 tk, .int .i64 fd, .slice G r h]) rfl rfl (by kernel_rfl) (by kernel_rfl) (by kernel_rfl) (fun _ _ _ h => h) (.inl ⟨by kernel_rfl, fun U hU => by obtain ⟨k1, k2⟩ := hU; obtain ⟨x0, x1, x2, x3, x4, x5, x6, x7, x8⟩ := k1.c9e; have lX := k1.lt; go_simp⟩) hS0 ?_
      simp only [Act.put, List.setIfInBounds_toArray, List.set_cons_zero, List.set_cons_succ]
      refine take_at (i := 13) (d := 29) (v := .agg #[.int .i64 wky, .int .i64 cpy, .int .i64 bdy, .slice Ay ny cy, .slice By my dy, .slice Fy qy ey, .int .i64 tky, .int .i64 fdy, .slice Gy ry hy]) rfl rfl (by kernel_rfl) (by kernel_rfl) (by kernel_rfl) (fun _ _ _ h => h) (.inl ⟨by kernel_rfl, fun U hU => by obtain ⟨k1, k2⟩ := hU; obtain ⟨y0, y1, y2, y3, y4, y5, y6, y7, y8⟩ := k2.c9e; have lY := k2.lt; go_simp⟩) hS0 ?_
      simp only [Act.put, List.setIfInBounds_toArray, List.set_cons_zero, List.set_cons_succ]
      refine wpAnyH_all (rs := [11]) (by kernel_rfl) (by simp) ?_
      intro i hi
      simp only [List.mem_cons, List.not_mem_nil, or_false] at hi
      subst hi
      unfold wpOp
      go_simp
      left
      refine (sameCf_en ⟨wk, cp, bd, ws, qs, P, tk, fd, sm⟩ ⟨wky, cpy, bdy, wsy, qsy, Py, tky, fdy, smy⟩ ⟨A, n, c, B, m, d, F, q, e, G, r, h⟩ ⟨Ay, ny, cy, By, my, dy, Fy, qy, ey, Gy, ry, hy⟩ _ (HX.out.below BB.out) (HY.out.below BB.out)).mono ?_
      rw [HSV.out]
      rintro e V3 ⟨rfl, bc⟩
      have hS1 := And.intro (hS0.1.below bc hS0.1.lt) (hS0.2.below bc hS0.2.lt)
      refine ⟨hS1, ?_⟩
      replace BB := Lib.hid (below3 BB.out bc)
      clear hS0 bc
      have hS0 := hS1
      clear hS1
      try simp only [Act.put, List.setIfInBounds_toArray, List.set_cons_zero, List.set_cons_succ]
      refine wpAnyH_all (rs := [14]) (by kernel_rfl) (by simp) ?_
      intro i hi
      simp only [List.mem_cons, List.not_mem_nil, or_false] at hi
      subst hi
      unfold wpOp
      go_simp
      left
      refine (rsameCf_any ⟨wk, cp, bd, ws, qs, P, tk, fd, sm⟩ ⟨wky, cpy, bdy, wsy, qsy, Py, tky, fdy, smy⟩ ⟨A, n, c, B, m, d, F, q, e, G, r, h⟩ ⟨Ay, ny, cy, By, my, dy, Fy, qy, ey, Gy, ry, hy⟩ _ (HX.out.below BB.out) (HY.out.below BB.out)).mono ?_
      rw [HSV.out]
      rintro e V4 ⟨rfl, bc⟩
      have hS1 := And.intro (hS0.1.below bc hS0.1.lt) (hS0.2.below bc hS0.2.lt)
      refine ⟨hS1, ?_⟩
      replace BB := Lib.hid (below3 BB.out bc)
      clear hS0 bc
      have hS0 := hS1
      clear hS1
      try simp only [Act.put, List.setIfInBounds_toArray, List.set_cons_zero, List.set_cons_succ]
      refine take_at (i := 15) (d := 31) (v := .bool true) rfl rfl (by kernel_rfl) (by kernel_rfl) (by kernel_rfl) (fun _ _ _ h => h) (.inl ⟨by kernel_rfl, fun U hU => by go_simp⟩) hS0 ?_
      simp only [Act.put, List.setIfInBounds_toArray, List.set_cons_zero, List.set_cons_succ]
      refine take_at (i := 16) (d := 32) (v := .bool true) rfl rfl (by kernel_rfl) (by kernel_rfl) (by kernel_rfl) (fun _ _ _ h => h) (.inl ⟨by kernel_rfl, fun U hU => by go_simp⟩) hS0 ?_
      simp only [Act.put, List.setIfInBounds_toArray, List.set_cons_zero, List.set_cons_succ]
      refine take_at (i := 17) (d := 4) (v := .bool true) rfl rfl (by kernel_rfl) (by kernel_rfl) (by kernel_rfl) (fun _ _ _ h => h) (.inl ⟨by kernel_rfl, fun U hU => by go_simp⟩) hS0 ?_
      simp only [Act.put, List.setIfInBounds_toArray, List.set_cons_zero, List.set_cons_succ]
      refine wpAnyH_done (by kernel_rfl) ?_ _
      clear hS0
      go_wp2_with fail
      go_ret
      exact ⟨rfl, BB.out⟩

end Go.Proofs.Ytpfnoohcilefhaa

/-
  The walk of the law RingSteps of layer 7.
-/
import Derived.Test.YtfmiamjbhlglbaaEh
namespace Go.Proofs.Ytfmiamjbhlglbaa
open Go.RowKit

set_option maxRecDepth 100000 in
set_option maxHeartbeats 2000000 in
theorem lsteps_out (A : Option Addr) (n c : Nat) (base cap : Int) (k p v t b : Int) (wn : Bool) (s kd vv : Int) (w : World) (hn : n ≤ 9223372036854775807) (h : 200 < n) :
    Calls Try.prog 3 #[.slice A n c, .agg #[.int .i64 base, .int .i64 cap], .agg #[.int .i64 k, .int .i64 p, .int .i64 v, .int .i64 t, .int .i64 b, .bool wn, .int .i64 s], .int .i64 kd, .int .i64 vv] w (TrueAns w) := by
  have hb := two_boxes w #[.int .i64 base, .int .i64 cap] #[.int .i64 k, .int .i64 p, .int .i64 v, .int .i64 t, .int .i64 b, .bool wn, .int .i64 s] 25 27
  have HB := Lib.hid hb
  clear hb
  go_enter Try.func3, Try.ntmps3
  go_wp2_with fail
  refine (live_any _).mono ?_
  rintro e w1 ⟨rfl, b1⟩
  have B1 := Lib.hid (below3 HB.out b1)
  clear b1 HB
  go_wp2
  go_ret
  exact ⟨rfl, B1.out⟩

/-- The loop that turns what was told. -/
structure LoI (w wr : World) (S len : Nat) (Aw : Option Addr) (cw : Nat) (ms : List Int) (Aa : Option Addr) (ca : Nat) (xs : List Int) : Prop where
  a : OwnI 2 wr S Aa ca xs
  was : OwnI 2 wr w.heap.size Aw cw ms
  bl : Below w.heap.size w wr
  len : xs.length = len

set_option maxRecDepth 100000 in
set_option maxHeartbeats 8000000 in
theorem lsteps_go (A : Option Addr) (n c : Nat) (base cap : Int) (ms : List Int) (k p v t b : Int) (wn : Bool) (s kd vv : Int) (w : World) (hx : Ints w A n ms) (h200 : n ≤ 200) (fb : Fit base) (fc : Fit cap) (fh : HdF ⟨k, p, v, t, b, wn, s⟩) (fk : Fit kd) :
    Calls Try.prog 3 #[.slice A n c, .agg #[.int .i64 base, .int .i64 cap], .agg #[.int .i64 k, .int .i64 p, .int .i64 v, .int .i64 t, .int .i64 b, .bool wn, .int .i64 s], .int .i64 kd, .int .i64 vv] w (TrueAns w) := by
  have hbl := two_boxes w #[.int .i64 base, .int .i64 cap] (hc ⟨k, p, v, t, b, wn, s⟩) 25 27
  obtain ⟨kq, kh⟩ := box2 w base cap ⟨k, p, v, t, b, wn, s⟩
  obtain ⟨W, hW⟩ : ∃ W, ((w.alloc (.cells #[.int .i64 base, .int .i64 cap] 25)).alloc (.cells (hc ⟨k, p, v, t, b, wn, s⟩) 27)) = W := ⟨_, rfl⟩
  rw [hW] at kq kh hbl
  unfold hc at hW kh
  simp only at hW kh
  have HW := Lib.hid hW
  have Q := Lib.hid kq
  have H := Lib.hid kh
  have BL := Lib.hid hbl
  have HX := Lib.hid hx
  obtain ⟨rS, hrS⟩ : ∃ r, stepF ms base cap ⟨k, p, v, t, b, wn, s⟩ = r := ⟨_, rfl⟩
  obtain ⟨eS, lS, ⟨xk, xp, xv, xt, xb, xw, xs⟩⟩ := rS
  obtain ⟨rO, hrO⟩ : ∃ r, soloA ms base cap ⟨k, p, v, t, b, wn, s⟩ = r := ⟨_, rfl⟩
  obtain ⟨eO, lO, ⟨yk, yp, yv, yt, yb, yw, ys⟩⟩ := rO
  obtain ⟨pS, eT, hst⟩ := start_both kd vv fk
  obtain ⟨zk, zp, zv, zt, zb, zw, zs⟩ := pS
  have HST := Lib.hid hst
  have S1 := Lib.hid (fun (W : World) (hX : Ints W A n ms) => hrS ▸ step_any A n c base cap ms ⟨k, p, v, t, b, wn, s⟩ W hX fb fc fh)
  have S2 := Lib.hid (fun (W : World) (hX : Ints W A n ms) => hrS ▸ rstep_any A n c base cap ms ⟨k, p, v, t, b, wn, s⟩ W hX fh)
  have S3 := Lib.hid (fun (W : World) (hX : Ints W A n ms) => hrO ▸ solo_any A n c base cap ms ⟨k, p, v, t, b, wn, s⟩ W hX fb fc fh)
  have S4 := Lib.hid (fun (W : World) (hX : Ints W A n ms) => hrO ▸ rsolo_any A n c base cap ms ⟨k, p, v, t, b, wn, s⟩ W hX fh.v)
  unfold hv at S1 S2 S3 S4
  simp only at S1 S2 S3 S4
  clear hW hx kq kh hbl hrS hrO hst
  go_enter Try.func3, Try.ntmps3
  go_upto_region 1 with fail
  rw [HW.out]
  clear HW
  go_wp2_with fail
  refine (live_any _).mono ?_
  rintro e w1 ⟨rfl, b1⟩
  have BL := Lib.hid (below3 BL.out b1)
  have Q := Lib.hid (Q.out.below b1 Q.out.lt)
  have H := Lib.hid (H.out.below b1 H.out.lt)
  clear b1
  have X1 := Lib.hid (HX.out.below BL.out)
  go_wp2_with (at_builtin; refine wpList_append_ints _ rfl _ _ 23 rfl 2 Try.underlying23 infoI w.heap.size _ _ [] 0 rfl rfl (OwnI.nil_ _ _ _) _ _ _ ms rfl X1.out (by have := X1.out.1; simp; omega) (by have := BL.out.size; omega) ?_; intro Aw cw w2 hown hgrow; rw [List.nil_append] at hown ⊢; have WA := Lib.hid hown; have b2 : Below w1.heap.size w1 w2 := (Below.refl _ _).grown hgrow (Nat.le_refl _) (by simp [Value.ownBlock]); have BL := Lib.hid (below3 BL.out b2); have Q := Lib.hid (Q.out.below b2 Q.out.lt); have H := Lib.hid (H.out.below b2 H.out.lt); clear hown hgrow b2 X1; have a0 : _ = some (Value.int .i64 base) := Q.out.cell 0; have a1 : _ = some (Value.int .i64 cap) := Q.out.cell 1; obtain ⟨h0, h1, h2, h3, h4, h5, h6⟩ := H.out.c7; have la := Q.out.lt; have lh := H.out.lt)
  have HWAS := Lib.hid WA.out.inside
  have HSZ : Hid (w.heap.size ≤ w2.heap.size) := Lib.hid BL.out.size
  refine (S1.out _ (HX.out.below BL.out)).mono ?_
  rintro e U3 ⟨A3, c3, rfl, o3, b3⟩
  clear a0 a1 h0 h1 h2 h3 h4 h5 h6 la lh
  have BL := Lib.hid (below3 BL.out b3)
  have Q := Lib.hid (Q.out.below b3 Q.out.lt)
  have H := Lib.hid (H.out.below b3 H.out.lt)
  have WA := Lib.hid (WA.out.below b3)
  have OA := Lib.hid o3
  clear o3
  simp only [hv]
  have kb := Bk.new U3 27 #[.int .i64 xk, .int .i64 xp, .int .i64 xv, .int .i64 xt, .int .i64 xb, .bool xw, .int .i64 xs]
  have ba := (Below.refl U3.heap.size U3).alloc (Nat.le_refl _) (.cells #[.int .i64 xk, .int .i64 xp, .int .i64 xv, .int .i64 xt, .int .i64 xb, .bool xw, .int .i64 xs] 27)
  have BL := Lib.hid (below3 BL.out ba)
  have Q := Lib.hid (Q.out.below ba Q.out.lt)
  have H := Lib.hid (H.out.below ba H.out.lt)
  have WA := Lib.hid (WA.out.below ba)
  have OA := Lib.hid (OA.out.below ba)
  have KX := Lib.hid kb
  clear kb ba b3
  obtain ⟨g3, hg3⟩ : ∃ g, U3.heap.size = g := ⟨_, rfl⟩
  obtain ⟨W3, hW3⟩ : ∃ W, U3.alloc (.cells #[.int .i64 xk, .int .i64 xp, .int .i64 xv, .int .i64 xt, .int .i64 xb, .bool xw, .int .i64 xs] 27) = W := ⟨_, rfl⟩
  rw [hW3] at BL Q H WA OA KX
  rw [hg3] at KX
  have HW := Lib.hid hW3
  have HG := Lib.hid hg3
  clear hW3 hg3
  go_upto_region 8 with fail
  rw [HW.out]
  try rw [HG.out]
  clear HW HG
  have a0 : _ = some (Value.int .i64 base) := Q.out.cell 0
  have a1 : _ = some (Value.int .i64 cap) := Q.out.cell 1
  obtain ⟨h0, h1, h2, h3, h4, h5, h6⟩ := H.out.c7
  have la := Q.out.lt
  have lh := H.out.lt
  go_wp2_with fail
  refine (S2.out _ (HX.out.below BL.out)).mono ?_
  rintro e U4 ⟨A4, c4, rfl, o4, b4⟩
  clear a0 a1 h0 h1 h2 h3 h4 h5 h6 la lh
  have BL := Lib.hid (below3 BL.out b4)
  have Q := Lib.hid (Q.out.below b4 Q.out.lt)
  have H := Lib.hid (H.out.below b4 H.out.lt)
  have WA := Lib.hid (WA.out.below b4)
  have OA := Lib.hid (OA.out.below b4)
  have KX := Lib.hid (KX.out.below b4 KX.out.lt)
  have OB := Lib.hid o4
  clear o4
  simp only [hv]
  have kb := Bk.new U4 27 #[.int .i64 xk, .int .i64 xp, .int .i64 xv, .int .i64 xt, .int .i64 xb, .bool xw, .int .i64 xs]
  have ba := (Below.refl U4.heap.size U4).alloc (Nat.le_refl _) (.cells #[.int .i64 xk, .int .i64 xp, .int .i64 xv, .int .i64 xt, .int .i64 xb, .bool xw, .int .i64 xs] 27)
  have BL := Lib.hid (below3 BL.out ba)
  have Q := Lib.hid (Q.out.below ba Q.out.lt)
  have H := Lib.hid (H.out.below ba H.out.lt)
  have WA := Lib.hid (WA.out.below ba)
  have OA := Lib.hid (OA.out.below ba)
  have KX := Lib.hid (KX.out.below ba KX.out.lt)
  have OB := Lib.hid (OB.out.below ba)
  have KY := Lib.hid kb
  clear kb ba b4
  obtain ⟨g4, hg4⟩ : ∃ g, U4.heap.size = g := ⟨_, rfl⟩
  obtain ⟨W4, hW4⟩ : ∃ W, U4.alloc (.cells #[.int .i64 xk, .int .i64 xp, .int .i64 xv, .int .i64 xt, .int .i64 xb, .bool xw, .int .i64 xs] 27) = W := ⟨_, rfl⟩
  rw [hW4] at BL Q H WA OA KX OB KY
  rw [hg4] at KY
  have HW := Lib.hid hW4
  have HG := Lib.hid hg4
  clear hW4 hg4
  go_upto_region 9 with fail
  rw [HW.out]
  try rw [HG.out]
  clear HW HG
  have a0 : _ = some (Value.int .i64 base) := Q.out.cell 0
  have a1 : _ = some (Value.int .i64 cap) := Q.out.cell 1
  obtain ⟨h0, h1, h2, h3, h4, h5, h6⟩ := H.out.c7
  have la := Q.out.lt
  have lh := H.out.lt
  go_wp2_with fail
  refine (S3.out _ (HX.out.below BL.out)).mono ?_
  rintro e U5 ⟨A5, c5, rfl, o5, b5⟩
  clear a0 a1 h0 h1 h2 h3 h4 h5 h6 la lh
  have BL := Lib.hid (below3 BL.out b5)
  have Q := Lib.hid (Q.out.below b5 Q.out.lt)
  have H := Lib.hid (H.out.below b5 H.out.lt)
  have WA := Lib.hid (WA.out.below b5)
  have OA := Lib.hid (OA.out.below b5)
  have KX := Lib.hid (KX.out.below b5 KX.out.lt)
  have OB := Lib.hid (OB.out.below b5)
  have KY := Lib.hid (KY.out.below b5 KY.out.lt)
  have OC := Lib.hid o5
  clear o5
  simp only [hv]
  have kb := Bk.new U5 27 #[.int .i64 yk, .int .i64 yp, .int .i64 yv, .int .i64 yt, .int .i64 yb, .bool yw, .int .i64 ys]
  have ba := (Below.refl U5.heap.size U5).alloc (Nat.le_refl _) (.cells #[.int .i64 yk, .int .i64 yp, .int .i64 yv, .int .i64 yt, .int .i64 yb, .bool yw, .int .i64 ys] 27)
  have BL := Lib.hid (below3 BL.out ba)
  have Q := Lib.hid (Q.out.below ba Q.out.lt)
  have H := Lib.hid (H.out.below ba H.out.lt)
  have WA := Lib.hid (WA.out.below ba)
  have OA := Lib.hid (OA.out.below ba)
  have KX := Lib.hid (KX.out.below ba KX.out.lt)
  have OB := Lib.hid (OB.out.below ba)
  have KY := Lib.hid (KY.out.below ba KY.out.lt)
  have OC := Lib.hid (OC.out.below ba)
  have KS := Lib.hid kb
  clear kb ba b5
  obtain ⟨g5, hg5⟩ : ∃ g, U5.heap.size = g := ⟨_, rfl⟩
  obtain ⟨W5, hW5⟩ : ∃ W, U5.alloc (.cells #[.int .i64 yk, .int .i64 yp, .int .i64 yv, .int .i64 yt, .int .i64 yb, .bool yw, .int .i64 ys] 27) = W := ⟨_, rfl⟩
  rw [hW5] at BL Q H WA OA KX OB KY OC KS
  rw [hg5] at KS
  have HW := Lib.hid hW5
  have HG := Lib.hid hg5
  clear hW5 hg5
  go_upto_region 10 with fail
  rw [HW.out]
  try rw [HG.out]
  clear HW HG
  have a0 : _ = some (Value.int .i64 base) := Q.out.cell 0
  have a1 : _ = some (Value.int .i64 cap) := Q.out.cell 1
  obtain ⟨h0, h1, h2, h3, h4, h5, h6⟩ := H.out.c7
  have la := Q.out.lt
  have lh := H.out.lt
  go_wp2_with fail
  refine (S4.out _ (HX.out.below BL.out)).mono ?_
  rintro e U6 ⟨A6, c6, rfl, o6, b6⟩
  clear a0 a1 h0 h1 h2 h3 h4 h5 h6 la lh
  have BL := Lib.hid (below3 BL.out b6)
  have Q := Lib.hid (Q.out.below b6 Q.out.lt)
  have H := Lib.hid (H.out.below b6 H.out.lt)
  have WA := Lib.hid (WA.out.below b6)
  have OA := Lib.hid (OA.out.below b6)
  have KX := Lib.hid (KX.out.below b6 KX.out.lt)
  have OB := Lib.hid (OB.out.below b6)
  have KY := Lib.hid (KY.out.below b6 KY.out.lt)
  have OC := Lib.hid (OC.out.below b6)
  have KS := Lib.hid (KS.out.below b6 KS.out.lt)
  have OD := Lib.hid o6
  clear o6
  simp only [hv]
  have kb := Bk.new U6 27 #[.int .i64 yk, .int .i64 yp, .int .i64 yv, .int .i64 yt, .int .i64 yb, .bool yw, .int .i64 ys]
  have ba := (Below.refl U6.heap.size U6).alloc (Nat.le_refl _) (.cells #[.int .i64 yk, .int .i64 yp, .int .i64 yv, .int .i64 yt, .int .i64 yb, .bool yw, .int .i64 ys] 27)
  have BL := Lib.hid (below3 BL.out ba)
  have Q := Lib.hid (Q.out.below ba Q.out.lt)
  have H := Lib.hid (H.out.below ba H.out.lt)
  have WA := Lib.hid (WA.out.below ba)
  have OA := Lib.hid (OA.out.below ba)
  have KX := Lib.hid (KX.out.below ba KX.out.lt)
  have OB := Lib.hid (OB.out.below ba)
  have KY := Lib.hid (KY.out.below ba KY.out.lt)
  have OC := Lib.hid (OC.out.below ba)
  have KS := Lib.hid (KS.out.below ba KS.out.lt)
  have OD := Lib.hid (OD.out.below ba)
  have KT := Lib.hid kb
  clear kb ba b6
  obtain ⟨g6, hg6⟩ : ∃ g, U6.heap.size = g := ⟨_, rfl⟩
  obtain ⟨W6, hW6⟩ : ∃ W, U6.alloc (.cells #[.int .i64 yk, .int .i64 yp, .int .i64 yv, .int .i64 yt, .int .i64 yb, .bool yw, .int .i64 ys] 27) = W := ⟨_, rfl⟩
  rw [hW6] at BL Q H WA OA KX OB KY OC KS OD KT
  rw [hg6] at KT
  have HW := Lib.hid hW6
  have HG := Lib.hid hg6
  clear hW6 hg6
  go_upto_region 11 with fail
  rw [HW.out]
  try rw [HG.out]
  clear HW HG
  go_wp2_with fail
  refine ((HST.out _).1).mono ?_
  rintro e U7 ⟨rfl, b7⟩
  have BL := Lib.hid (below3 BL.out b7)
  have Q := Lib.hid (Q.out.below b7 Q.out.lt)
  have H := Lib.hid (H.out.below b7 H.out.lt)
  have WA := Lib.hid (WA.out.below b7)
  have OA := Lib.hid (OA.out.below b7)
  have KX := Lib.hid (KX.out.below b7 KX.out.lt)
  have OB := Lib.hid (OB.out.below b7)
  have KY := Lib.hid (KY.out.below b7 KY.out.lt)
  have OC := Lib.hid (OC.out.below b7)
  have KS := Lib.hid (KS.out.below b7 KS.out.lt)
  have OD := Lib.hid (OD.out.below b7)
  have KT := Lib.hid (KT.out.below b7 KT.out.lt)
  simp only [hv]
  have kb := Bk.new U7 27 #[.int .i64 zk, .int .i64 zp, .int .i64 zv, .int .i64 zt, .int .i64 zb, .bool zw, .int .i64 zs]
  have ba := (Below.refl U7.heap.size U7).alloc (Nat.le_refl _) (.cells #[.int .i64 zk, .int .i64 zp, .int .i64 zv, .int .i64 zt, .int .i64 zb, .bool zw, .int .i64 zs] 27)
  have BL := Lib.hid (below3 BL.out ba)
  have Q := Lib.hid (Q.out.below ba Q.out.lt)
  have H := Lib.hid (H.out.below ba H.out.lt)
  have WA := Lib.hid (WA.out.below ba)
  have OA := Lib.hid (OA.out.below ba)
  have KX := Lib.hid (KX.out.below ba KX.out.lt)
  have OB := Lib.hid (OB.out.below ba)
  have KY := Lib.hid (KY.out.below ba KY.out.lt)
  have OC := Lib.hid (OC.out.below ba)
  have KS := Lib.hid (KS.out.below ba KS.out.lt)
  have OD := Lib.hid (OD.out.below ba)
  have KT := Lib.hid (KT.out.below ba KT.out.lt)
  have KP := Lib.hid kb
  clear kb ba b7
  obtain ⟨g7, hg7⟩ : ∃ g, U7.heap.size = g := ⟨_, rfl⟩
  obtain ⟨W7, hW7⟩ : ∃ W, U7.alloc (.cells #[.int .i64 zk, .int .i64 zp, .int .i64 zv, .int .i64 zt, .int .i64 zb, .bool zw, .int .i64 zs] 27) = W := ⟨_, rfl⟩
  rw [hW7] at BL Q H WA OA KX OB KY OC KS OD KT KP
  rw [hg7] at KP
  have HW := Lib.hid hW7
  have HG := Lib.hid hg7
  clear hW7 hg7
  go_upto_region 12 with fail
  rw [HW.out]
  try rw [HG.out]
  clear HW HG
  go_wp2_with fail
  refine ((HST.out _).2).mono ?_
  rintro e U8 ⟨rfl, b8⟩
  have BL := Lib.hid (below3 BL.out b8)
  have Q := Lib.hid (Q.out.below b8 Q.out.lt)
  have H := Lib.hid (H.out.below b8 H.out.lt)
  have WA := Lib.hid (WA.out.below b8)
  have OA := Lib.hid (OA.out.below b8)
  have KX := Lib.hid (KX.out.below b8 KX.out.lt)
  have OB := Lib.hid (OB.out.below b8)
  have KY := Lib.hid (KY.out.below b8 KY.out.lt)
  have OC := Lib.hid (OC.out.below b8)
  have KS := Lib.hid (KS.out.below b8 KS.out.lt)
  have OD := Lib.hid (OD.out.below b8)
  have KT := Lib.hid (KT.out.below b8 KT.out.lt)
  have KP := Lib.hid (KP.out.below b8 KP.out.lt)
  simp only [hv]
  have kb := Bk.new U8 27 #[.int .i64 zk, .int .i64 zp, .int .i64 zv, .int .i64 zt, .int .i64 zb, .bool zw, .int .i64 zs]
  have ba := (Below.refl U8.heap.size U8).alloc (Nat.le_refl _) (.cells #[.int .i64 zk, .int .i64 zp, .int .i64 zv, .int .i64 zt, .int .i64 zb, .bool zw, .int .i64 zs] 27)
  have BL := Lib.hid (below3 BL.out ba)
  have Q := Lib.hid (Q.out.below ba Q.out.lt)
  have H := Lib.hid (H.out.below ba H.out.lt)
  have WA := Lib.hid (WA.out.below ba)
  have OA := Lib.hid (OA.out.below ba)
  have KX := Lib.hid (KX.out.below ba KX.out.lt)
  have OB := Lib.hid (OB.out.below ba)
  have KY := Lib.hid (KY.out.below ba KY.out.lt)
  have OC := Lib.hid (OC.out.below ba)
  have KS := Lib.hid (KS.out.below ba KS.out.lt)
  have OD := Lib.hid (OD.out.below ba)
  have KT := Lib.hid (KT.out.below ba KT.out.lt)
  have KP := Lib.hid (KP.out.below ba KP.out.lt)
  have KO := Lib.hid kb
  clear kb ba b8
  obtain ⟨g8, hg8⟩ : ∃ g, U8.heap.size = g := ⟨_, rfl⟩
  obtain ⟨W8, hW8⟩ : ∃ W, U8.alloc (.cells #[.int .i64 zk, .int .i64 zp, .int .i64 zv, .int .i64 zt, .int .i64 zb, .bool zw, .int .i64 zs] 27) = W := ⟨_, rfl⟩
  rw [hW8] at BL Q H WA OA KX OB KY OC KS OD KT KP KO
  rw [hg8] at KO
  have HW := Lib.hid hW8
  have HG := Lib.hid hg8
  clear hW8 hg8
  go_upto_region 13 with fail
  rw [HW.out]
  try rw [HG.out]
  clear HW HG
  have hE1 := eql_hand xk xp xv xt xb xw xs
  have hE2 := eql_hand yk yp yv yt yb yw ys
  have hE3 := eql_hand zk zp zv zt zb zw zs
  have hGd := guard_hand
  obtain ⟨kx0, kx1, kx2, kx3, kx4, kx5, kx6⟩ := KX.out.c7
  have kxl := KX.out.lt
  obtain ⟨ky0, ky1, ky2, ky3, ky4, ky5, ky6⟩ := KY.out.c7
  have kyl := KY.out.lt
  obtain ⟨ks0, ks1, ks2, ks3, ks4, ks5, ks6⟩ := KS.out.c7
  have ksl := KS.out.lt
  obtain ⟨kt0, kt1, kt2, kt3, kt4, kt5, kt6⟩ := KT.out.c7
  have ktl := KT.out.lt
  obtain ⟨kp0, kp1, kp2, kp3, kp4, kp5, kp6⟩ := KP.out.c7
  have kpl := KP.out.lt
  obtain ⟨ko0, ko1, ko2, ko3, ko4, ko5, ko6⟩ := KO.out.c7
  have kol := KO.out.lt
  go_wp2_with fail
  refine (rsame_any _ _ _ _ _ _ lS lS _ OA.out.ints OB.out.ints).mono ?_
  rw [sameB_refl]
  rintro e V1 ⟨rfl, d1, hd1⟩
  clear kx0 kx1 kx2 kx3 kx4 kx5 kx6 ky0 ky1 ky2 ky3 ky4 ky5 ky6 ks0 ks1 ks2 ks3 ks4 ks5 ks6 kt0 kt1 kt2 kt3 kt4 kt5 kt6 kp0 kp1 kp2 kp3 kp4 kp5 kp6 ko0 ko1 ko2 ko3 ko4 ko5 ko6 kxl kyl ksl ktl kpl kol
  have bd := below_drewN (Below.refl W8.heap.size W8) d1
  rw [← hd1] at bd
  have BL := Lib.hid (below3 BL.out bd)
  have Q := Lib.hid (Q.out.below bd Q.out.lt)
  have H := Lib.hid (H.out.below bd H.out.lt)
  have WA := Lib.hid (WA.out.below bd)
  have OA := Lib.hid (OA.out.below bd)
  have KX := Lib.hid (KX.out.below bd KX.out.lt)
  have OB := Lib.hid (OB.out.below bd)
  have KY := Lib.hid (KY.out.below bd KY.out.lt)
  have OC := Lib.hid (OC.out.below bd)
  have KS := Lib.hid (KS.out.below bd KS.out.lt)
  have OD := Lib.hid (OD.out.below bd)
  have KT := Lib.hid (KT.out.below bd KT.out.lt)
  have KP := Lib.hid (KP.out.below bd KP.out.lt)
  have KO := Lib.hid (KO.out.below bd KO.out.lt)
  clear bd hd1
  obtain ⟨kx0, kx1, kx2, kx3, kx4, kx5, kx6⟩ := KX.out.c7
  have kxl := KX.out.lt
  obtain ⟨ky0, ky1, ky2, ky3, ky4, ky5, ky6⟩ := KY.out.c7
  have kyl := KY.out.lt
  obtain ⟨ks0, ks1, ks2, ks3, ks4, ks5, ks6⟩ := KS.out.c7
  have ksl := KS.out.lt
  obtain ⟨kt0, kt1, kt2, kt3, kt4, kt5, kt6⟩ := KT.out.c7
  have ktl := KT.out.lt
  obtain ⟨kp0, kp1, kp2, kp3, kp4, kp5, kp6⟩ := KP.out.c7
  have kpl := KP.out.lt
  obtain ⟨ko0, ko1, ko2, ko3, ko4, ko5, ko6⟩ := KO.out.c7
  have kol := KO.out.lt
  go_wp2_with fail
  refine (rsame_any _ _ _ _ _ _ lO lO _ OC.out.ints OD.out.ints).mono ?_
  rw [sameB_refl]
  rintro e V2 ⟨rfl, d2, hd2⟩
  clear kx0 kx1 kx2 kx3 kx4 kx5 kx6 ky0 ky1 ky2 ky3 ky4 ky5 ky6 ks0 ks1 ks2 ks3 ks4 ks5 ks6 kt0 kt1 kt2 kt3 kt4 kt5 kt6 kp0 kp1 kp2 kp3 kp4 kp5 kp6 ko0 ko1 ko2 ko3 ko4 ko5 ko6 kxl kyl ksl ktl kpl kol
  have bd := below_drewN (Below.refl V1.heap.size V1) d2
  rw [← hd2] at bd
  have BL := Lib.hid (below3 BL.out bd)
  have Q := Lib.hid (Q.out.below bd Q.out.lt)
  have H := Lib.hid (H.out.below bd H.out.lt)
  have WA := Lib.hid (WA.out.below bd)
  have OA := Lib.hid (OA.out.below bd)
  have KX := Lib.hid (KX.out.below bd KX.out.lt)
  have OB := Lib.hid (OB.out.below bd)
  have KY := Lib.hid (KY.out.below bd KY.out.lt)
  have OC := Lib.hid (OC.out.below bd)
  have KS := Lib.hid (KS.out.below bd KS.out.lt)
  have OD := Lib.hid (OD.out.below bd)
  have KT := Lib.hid (KT.out.below bd KT.out.lt)
  have KP := Lib.hid (KP.out.below bd KP.out.lt)
  have KO := Lib.hid (KO.out.below bd KO.out.lt)
  clear bd hd2
  obtain ⟨kx0, kx1, kx2, kx3, kx4, kx5, kx6⟩ := KX.out.c7
  have kxl := KX.out.lt
  obtain ⟨ky0, ky1, ky2, ky3, ky4, ky5, ky6⟩ := KY.out.c7
  have kyl := KY.out.lt
  obtain ⟨ks0, ks1, ks2, ks3, ks4, ks5, ks6⟩ := KS.out.c7
  have ksl := KS.out.lt
  obtain ⟨kt0, kt1, kt2, kt3, kt4, kt5, kt6⟩ := KT.out.c7
  have ktl := KT.out.lt
  obtain ⟨kp0, kp1, kp2, kp3, kp4, kp5, kp6⟩ := KP.out.c7
  have kpl := KP.out.lt
  obtain ⟨ko0, ko1, ko2, ko3, ko4, ko5, ko6⟩ := KO.out.c7
  have kol := KO.out.lt
  go_upto_region 14 with fail
  clear hE1 hE2 hE3 hGd kx0 kx1 kx2 kx3 kx4 kx5 kx6 ky0 ky1 ky2 ky3 ky4 ky5 ky6 ks0 ks1 ks2 ks3 ks4 ks5 ks6 kt0 kt1 kt2 kt3 kt4 kt5 kt6 kp0 kp1 kp2 kp3 kp4 kp5 kp6 ko0 ko1 ko2 ko3 ko4 ko5 ko6 kxl kyl ksl ktl kpl kol
  have LO := Lib.hid (⟨OA.out, WA.out, BL.out, rfl⟩ : LoI w V2 w2.heap.size lS.length Aw cw ms A3 c3 lS)
  have HLL := Lib.hid OA.out.ints.2.1
  clear KX KY KS KT KP KO OA OB OC OD WA BL Q H S1 S2 S3 S4 HST
  go_wp2_with fail
  go_loopw [124] (fun t wr => ∃ j : Nat, j ≤ lS.length ∧ t = .int .i64 j ∧ ∃ xs, Hid (LoI w wr w2.heap.size lS.length Aw cw ms A3 c3 xs)) (fun t _ => lS.length - (intOf t).toNat)
  case atStart => exact ⟨0, Nat.zero_le _, rfl, lS, LO⟩
  case round =>
    rename World => wr
    clear LO
    obtain ⟨j, hj, rfl, xs, LO⟩ := hrel
    by_cases hjl : j < lS.length
    · have hxl : j < xs.length := by have := LO.out.len; omega
      have hj47 : j < 140737488351232 := by have := HLL.out; omega
      obtain ⟨gA, rfl, hgA, hgl, hcc, hcm⟩ := LO.out.a.form (by omega)
      obtain ⟨hc, hf⟩ := LO.out.a.at_ hxl
      obtain ⟨z, hz⟩ : ∃ z, nth xs j = z := ⟨_, rfl⟩
      obtain ⟨z2, hz2⟩ : ∃ z2, IntKind.i64.wrap (z + 1) = z2 := ⟨_, rfl⟩
      rw [hz] at hc
      have fz : Fit z2 := hz2 ▸ fit_wrap _
      have LO2 : Hid (LoI w (wr.setCell ⟨gA, j, none⟩ (.int .i64 z2)) w2.heap.size lS.length Aw cw ms (some ⟨gA, 0, none⟩) c3 (xs.set j z2)) := Lib.hid ⟨LO.out.a.set_ j fz, LO.out.was.aside (fun a e => by have := HWAS.out a e; omega) j _, LO.out.bl.setCell (p := ⟨gA, j, none⟩) (by show w.heap.size ≤ gA; have := HSZ.out; omega) _, by rw [List.length_set]; exact LO.out.len⟩
      clear hz fz hcm hcc hxl
      go_wp2
      go_roundw
      case rel => exact ⟨j + 1, by omega, by go_num, _, LO2⟩
      case measure => simp [intOf]; omega
    · have IM := Lib.hid (HX.out.below LO.out.bl)
      go_wp2_with fail
      refine (rsame_any _ _ _ _ _ _ ms ms _ IM.out LO.out.was.ints).mono ?_
      rw [sameB_refl]
      rintro e V9 ⟨rfl, d9, hd9⟩
      have B9 := below_drewN LO.out.bl d9
      rw [← hd9] at B9
      have B9 := Lib.hid B9
      clear hd9
      go_wp2
      go_ret
      exact ⟨rfl, B9.out⟩

theorem lsteps_any (A : Option Addr) (n c : Nat) (base cap : Int) (ms : List Int) (k p v t b : Int) (wn : Bool) (s kd vv : Int) (w : World) (hx : Ints w A n ms) (fb : Fit base) (fc : Fit cap) (fh : HdF ⟨k, p, v, t, b, wn, s⟩) (fk : Fit kd) :
    Calls Try.prog 3 #[.slice A n c, .agg #[.int .i64 base, .int .i64 cap], .agg #[.int .i64 k, .int .i64 p, .int .i64 v, .int .i64 t, .int .i64 b, .bool wn, .int .i64 s], .int .i64 kd, .int .i64 vv] w (TrueAns w) := by
  by_cases h : 200 < n
  · exact lsteps_out A n c base cap k p v t b wn s kd vv w (by have := hx.2.1; omega) h
  · exact lsteps_go A n c base cap ms k p v t b wn s kd vv w hx (by omega) fb fc fh fk

end Go.Proofs.Ytfmiamjbhlglbaa

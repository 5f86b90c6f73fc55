/-
  The document's Step (layer 7): what the table says.
-/
import Derived.Test.YtfmiamjbhlglbaaRy
namespace Go.Proofs.Ytfmiamjbhlglbaa
open Go.RowKit

theorem sbox_set {s base cap : Nat} {k p v t b : Int} {wn : Bool} {st : Int} {U : World} (h : SBox s base cap k p v t b wn st U) (k2 p2 v2 t2 b2 : Int) (wn2 : Bool) (s2 : Int) :
    SBox s base cap k2 p2 v2 t2 b2 wn2 s2 (set7 U (s + 1) (.int .i64 k2) (.int .i64 p2) (.int .i64 v2) (.int .i64 t2) (.int .i64 b2) (.bool wn2) (.int .i64 s2)) :=
  ⟨Bk.far7 h.q (by omega) _ _ _ _ _ _ _, bk_set7 h.h _ _ _ _ _ _ _⟩
theorem rbox_set {s : Nat} {U : World} (h : RBox s U) (v0 v1 v2 v3 v4 v5 v6 : Value) : RBox s (set7 U (s + 1) v0 v1 v2 v3 v4 v5 v6) := ⟨Bk.far7 h.r (by omega) _ _ _ _ _ _ _⟩
/-- The boxes where base and cap are any numbers. -/
structure TBox (s : Nat) (base cap : Int) (h : Hd) (U : World) : Prop where
  q : Bk U s 25 #[.int .i64 base, .int .i64 cap]
  h : Bk U (s + 1) 27 #[.int .i64 h.kind, .int .i64 h.pc, .int .i64 h.v, .int .i64 h.t, .int .i64 h.b, .bool h.won, .int .i64 h.state]
  r : RBox s U
theorem TBox.below {s : Nat} {base cap : Int} {h : Hd} {U U' : World} (x : TBox s base cap h U) (hb : Below U.heap.size U U') : TBox s base cap h U' := ⟨x.q.below hb x.q.lt, x.h.below hb x.h.lt, x.r.below hb⟩
theorem TBox.start (w : World) (base cap : Int) (h : Hd) : TBox w.heap.size base cap h (((w.alloc (.cells #[.int .i64 base, .int .i64 cap] 25)).alloc (.cells (hc h) 27)).alloc (.cells z7 27)) ∧
    Below w.heap.size w (((w.alloc (.cells #[.int .i64 base, .int .i64 cap] 25)).alloc (.cells (hc h) 27)).alloc (.cells z7 27)) := by
  obtain ⟨b, l⟩ := box3 w base cap h
  exact ⟨⟨b.q, b.h, ⟨b.r⟩⟩, l⟩
set_option maxRecDepth 100000 in
set_option maxHeartbeats 2000000 in
theorem rstep_q (A : Option Addr) (n c : Nat) (base cap : Int) (ms : List Int) (k p v t b : Int) (wn : Bool) (s : Int) (w : World) (hx : Ints w A n ms) (hq : ¬ MayQ n base cap) :
    Calls Try.prog 9 #[.slice A n c, .agg #[.int .i64 base, .int .i64 cap], hv ⟨k, p, v, t, b, wn, s⟩] w (StepOf (1, [], noH) w) := by
  have HN : Hid (n ≤ 9223372036854775807) := Lib.hid (by have := hx.2.1; omega)
  have HX := Lib.hid hx
  obtain ⟨tb, hbl⟩ := TBox.start w base cap ⟨k, p, v, t, b, wn, s⟩
  obtain ⟨W, hW⟩ : ∃ W, (((w.alloc (.cells #[.int .i64 base, .int .i64 cap] 25)).alloc (.cells (hc ⟨k, p, v, t, b, wn, s⟩) 27)).alloc (.cells z7 27)) = W := ⟨_, rfl⟩
  rw [hW] at tb hbl
  unfold hc z7 at hW
  have HW := Lib.hid hW
  have T0 := Lib.hid tb
  have BL := Lib.hid hbl
  clear hx hW tb hbl
  unfold hv
  go_enter Try.func9, Try.ntmps9
  go_upto_region 1 with fail
  rw [HW.out]
  clear HW
  have a0 : _ = some (Value.int .i64 base) := T0.out.q.cell 0
  have a1 : _ = some (Value.int .i64 cap) := T0.out.q.cell 1
  obtain ⟨h0, h1, h2, h3, h4, h5, h6⟩ := T0.out.h.c7
  have la := T0.out.q.lt
  have lh := T0.out.h.lt
  go_wp2_with fail
  refine (rcheckq_any A n c base cap _ HN.out).mono ?_
  rw [if_neg hq]
  rintro e w1 ⟨rfl, b1⟩
  have T1 := Lib.hid (T0.out.below b1)
  have L1 := Lib.hid (below3 BL.out b1)
  clear b1 T0 a0 a1 h0 h1 h2 h3 h4 h5 h6 la lh
  obtain ⟨q0, q1, q2, q3, q4, q5, q6⟩ := T1.out.r.r.c7
  obtain ⟨f0, f1, f2, f3, f4, f5, f6⟩ := T1.out.r.r.f7
  have lr := T1.out.r.r.lt
  have B2 := Lib.hid (below_set7 L1.out (by omega : w.heap.size ≤ w.heap.size + 1 + 1) (.int .i64 0) (.int .i64 0) (.int .i64 0) (.int .i64 0) (.int .i64 0) (.bool false) (.int .i64 0))
  have K2 := Lib.hid (bk_set7 T1.out.r.r (.int .i64 0) (.int .i64 0) (.int .i64 0) (.int .i64 0) (.int .i64 0) (.bool false) (.int .i64 0))
  go_wp2
  obtain ⟨r0, r1, r2, r3, r4, r5, r6⟩ := K2.out.c7
  unfold set7 at r0 r1 r2 r3 r4 r5 r6
  exact bodyPost_ret (v := .tuple #[.slice none 0 0, .agg #[.int .i64 0, .int .i64 0, .int .i64 0, .int .i64 0, .int .i64 0, .bool false, .int .i64 0], .int .i64 1]) (by simp [results, Try.results9, go_sem, r0, r1, r2, r3, r4, r5, r6]) rfl ⟨none, 0, rfl, OwnI.nil_ _ _ _, B2.out⟩

set_option maxRecDepth 100000 in
set_option maxHeartbeats 2000000 in
theorem rstep_h (A : Option Addr) (n c : Nat) (base cap : Int) (ms : List Int) (k p v t b : Int) (wn : Bool) (s : Int) (w : World) (hx : Ints w A n ms) (hq : MayQ n base cap) (hm : ¬ MayH ⟨k, p, v, t, b, wn, s⟩) :
    Calls Try.prog 9 #[.slice A n c, .agg #[.int .i64 base, .int .i64 cap], hv ⟨k, p, v, t, b, wn, s⟩] w (StepOf (1, [], noH) w) := by
  have HN : Hid (n ≤ 9223372036854775807) := Lib.hid (by have := hx.2.1; omega)
  have HX := Lib.hid hx
  obtain ⟨tb, hbl⟩ := TBox.start w base cap ⟨k, p, v, t, b, wn, s⟩
  obtain ⟨W, hW⟩ : ∃ W, (((w.alloc (.cells #[.int .i64 base, .int .i64 cap] 25)).alloc (.cells (hc ⟨k, p, v, t, b, wn, s⟩) 27)).alloc (.cells z7 27)) = W := ⟨_, rfl⟩
  rw [hW] at tb hbl
  unfold hc z7 at hW
  have HW := Lib.hid hW
  have T0 := Lib.hid tb
  have BL := Lib.hid hbl
  clear hx hW tb hbl
  unfold hv
  go_enter Try.func9, Try.ntmps9
  go_upto_region 1 with fail
  rw [HW.out]
  clear HW
  have a0 : _ = some (Value.int .i64 base) := T0.out.q.cell 0
  have a1 : _ = some (Value.int .i64 cap) := T0.out.q.cell 1
  obtain ⟨h0, h1, h2, h3, h4, h5, h6⟩ := T0.out.h.c7
  have la := T0.out.q.lt
  have lh := T0.out.h.lt
  go_wp2_with fail
  refine (rcheckq_any A n c base cap _ HN.out).mono ?_
  rw [if_pos hq]
  rintro e w1 ⟨rfl, b1⟩
  have T1 := Lib.hid (T0.out.below b1)
  have L1 := Lib.hid (below3 BL.out b1)
  clear b1 T0 a0 a1 h0 h1 h2 h3 h4 h5 h6 la lh
  have a0 : _ = some (Value.int .i64 base) := T1.out.q.cell 0
  have a1 : _ = some (Value.int .i64 cap) := T1.out.q.cell 1
  obtain ⟨h0, h1, h2, h3, h4, h5, h6⟩ := T1.out.h.c7
  have la := T1.out.q.lt
  have lh := T1.out.h.lt
  have HM := Lib.hid (may_any ⟨k, p, v, t, b, wn, s⟩)
  go_wp2_with fail
  refine (HM.out _).mono ?_
  rw [decide_eq_false hm]
  rintro e w2 ⟨rfl, b2⟩
  have T2 := Lib.hid (T1.out.below b2)
  have L2 := Lib.hid (below3 L1.out b2)
  clear b2 T1 HM a0 a1 h0 h1 h2 h3 h4 h5 h6 la lh
  obtain ⟨q0, q1, q2, q3, q4, q5, q6⟩ := T2.out.r.r.c7
  obtain ⟨f0, f1, f2, f3, f4, f5, f6⟩ := T2.out.r.r.f7
  have lr := T2.out.r.r.lt
  have B2 := Lib.hid (below_set7 L2.out (by omega : w.heap.size ≤ w.heap.size + 1 + 1) (.int .i64 0) (.int .i64 0) (.int .i64 0) (.int .i64 0) (.int .i64 0) (.bool false) (.int .i64 0))
  have K2 := Lib.hid (bk_set7 T2.out.r.r (.int .i64 0) (.int .i64 0) (.int .i64 0) (.int .i64 0) (.int .i64 0) (.bool false) (.int .i64 0))
  go_wp2
  obtain ⟨r0, r1, r2, r3, r4, r5, r6⟩ := K2.out.c7
  unfold set7 at r0 r1 r2 r3 r4 r5 r6
  exact bodyPost_ret (v := .tuple #[.slice none 0 0, .agg #[.int .i64 0, .int .i64 0, .int .i64 0, .int .i64 0, .int .i64 0, .bool false, .int .i64 0], .int .i64 1]) (by simp [results, Try.results9, go_sem, r0, r1, r2, r3, r4, r5, r6]) rfl ⟨none, 0, rfl, OwnI.nil_ _ _ _, B2.out⟩

set_option maxRecDepth 100000 in
set_option maxHeartbeats 2000000 in
theorem rstep_s (A : Option Addr) (n c : Nat) (base cap : Int) (ms : List Int) (k p v t b : Int) (wn : Bool) (s : Int) (w : World) (hx : Ints w A n ms) (hq : MayQ n base cap) (hm : MayH ⟨k, p, v, t, b, wn, s⟩) (hs : s ≠ 0) :
    Calls Try.prog 9 #[.slice A n c, .agg #[.int .i64 base, .int .i64 cap], hv ⟨k, p, v, t, b, wn, s⟩] w (StepOf (9, [], noH) w) := by
  have HN : Hid (n ≤ 9223372036854775807) := Lib.hid (by have := hx.2.1; omega)
  have HX := Lib.hid hx
  obtain ⟨tb, hbl⟩ := TBox.start w base cap ⟨k, p, v, t, b, wn, s⟩
  obtain ⟨W, hW⟩ : ∃ W, (((w.alloc (.cells #[.int .i64 base, .int .i64 cap] 25)).alloc (.cells (hc ⟨k, p, v, t, b, wn, s⟩) 27)).alloc (.cells z7 27)) = W := ⟨_, rfl⟩
  rw [hW] at tb hbl
  unfold hc z7 at hW
  have HW := Lib.hid hW
  have T0 := Lib.hid tb
  have BL := Lib.hid hbl
  clear hx hW tb hbl
  unfold hv
  go_enter Try.func9, Try.ntmps9
  go_upto_region 1 with fail
  rw [HW.out]
  clear HW
  have a0 : _ = some (Value.int .i64 base) := T0.out.q.cell 0
  have a1 : _ = some (Value.int .i64 cap) := T0.out.q.cell 1
  obtain ⟨h0, h1, h2, h3, h4, h5, h6⟩ := T0.out.h.c7
  have la := T0.out.q.lt
  have lh := T0.out.h.lt
  go_wp2_with fail
  refine (rcheckq_any A n c base cap _ HN.out).mono ?_
  rw [if_pos hq]
  rintro e w1 ⟨rfl, b1⟩
  have T1 := Lib.hid (T0.out.below b1)
  have L1 := Lib.hid (below3 BL.out b1)
  clear b1 T0 a0 a1 h0 h1 h2 h3 h4 h5 h6 la lh
  have hs1 : (s != 0) = true := by simpa using hs
  have a0 : _ = some (Value.int .i64 base) := T1.out.q.cell 0
  have a1 : _ = some (Value.int .i64 cap) := T1.out.q.cell 1
  obtain ⟨h0, h1, h2, h3, h4, h5, h6⟩ := T1.out.h.c7
  have la := T1.out.q.lt
  have lh := T1.out.h.lt
  have HM := Lib.hid (may_any ⟨k, p, v, t, b, wn, s⟩)
  go_wp2_with fail
  refine (HM.out _).mono ?_
  rw [decide_eq_true hm]
  rintro e w2 ⟨rfl, b2⟩
  have T2 := Lib.hid (T1.out.below b2)
  have L2 := Lib.hid (below3 L1.out b2)
  clear b2 T1 HM a0 a1 h0 h1 h2 h3 h4 h5 h6 la lh
  have a0 : _ = some (Value.int .i64 base) := T2.out.q.cell 0
  have a1 : _ = some (Value.int .i64 cap) := T2.out.q.cell 1
  obtain ⟨h0, h1, h2, h3, h4, h5, h6⟩ := T2.out.h.c7
  have la := T2.out.q.lt
  have lh := T2.out.h.lt
  obtain ⟨q0, q1, q2, q3, q4, q5, q6⟩ := T2.out.r.r.c7
  obtain ⟨f0, f1, f2, f3, f4, f5, f6⟩ := T2.out.r.r.f7
  have lr := T2.out.r.r.lt
  have B2 := Lib.hid (below_set7 L2.out (by omega : w.heap.size ≤ w.heap.size + 1 + 1) (.int .i64 0) (.int .i64 0) (.int .i64 0) (.int .i64 0) (.int .i64 0) (.bool false) (.int .i64 0))
  have K2 := Lib.hid (bk_set7 T2.out.r.r (.int .i64 0) (.int .i64 0) (.int .i64 0) (.int .i64 0) (.int .i64 0) (.bool false) (.int .i64 0))
  go_wp2
  obtain ⟨r0, r1, r2, r3, r4, r5, r6⟩ := K2.out.c7
  unfold set7 at r0 r1 r2 r3 r4 r5 r6
  exact bodyPost_ret (v := .tuple #[.slice none 0 0, .agg #[.int .i64 0, .int .i64 0, .int .i64 0, .int .i64 0, .int .i64 0, .bool false, .int .i64 0], .int .i64 9]) (by simp [results, Try.results9, go_sem, r0, r1, r2, r3, r4, r5, r6]) rfl ⟨none, 0, rfl, OwnI.nil_ _ _ _, B2.out⟩

set_option maxRecDepth 100000 in
set_option maxHeartbeats 2000000 in
theorem rstep_1 (A : Option Addr) (c : Nat) (base cap : Nat) (ms : List Int) (k p v t b : Int) (wn : Bool) (s : Int) (w : World) (hx : Ints w A ms.length ms) (hq : MayQ ms.length base cap) (hm : MayH ⟨k, p, v, t, b, wn, s⟩) (hs : s = 0) (hk : k = 1) (fv : Fit v) (o : Option (List Int × Hd)) (ho : accF ms base cap ⟨k, p, v, t, b, wn, s⟩ = o) :
    Calls Try.prog 9 #[.slice A ms.length c, .agg #[.int .i64 base, .int .i64 cap], hv ⟨k, p, v, t, b, wn, s⟩] w (StepOf (soloR o) w) := by
  subst hs hk
  have HN : Hid (ms.length ≤ 9223372036854775807) := Lib.hid (by have := hx.2.1; omega)
  have HX := Lib.hid hx
  have hbig := hq.1
  have hlen : base + 2 + cap ≤ ms.length := by have := hq.2.2.2.2.2; omega
  obtain ⟨tb, hbl⟩ := TBox.start w base cap ⟨1, p, v, t, b, wn, 0⟩
  obtain ⟨W, hW⟩ : ∃ W, (((w.alloc (.cells #[.int .i64 base, .int .i64 cap] 25)).alloc (.cells (hc ⟨1, p, v, t, b, wn, 0⟩) 27)).alloc (.cells z7 27)) = W := ⟨_, rfl⟩
  rw [hW] at tb hbl
  unfold hc z7 at hW
  have HW := Lib.hid hW
  have T0 := Lib.hid tb
  have BL := Lib.hid hbl
  clear hx hW tb hbl
  unfold hv
  go_enter Try.func9, Try.ntmps9
  go_upto_region 1 with fail
  rw [HW.out]
  clear HW
  have a0 : _ = some (Value.int .i64 base) := T0.out.q.cell 0
  have a1 : _ = some (Value.int .i64 cap) := T0.out.q.cell 1
  obtain ⟨h0, h1, h2, h3, h4, h5, h6⟩ := T0.out.h.c7
  have la := T0.out.q.lt
  have lh := T0.out.h.lt
  go_wp2_with fail
  refine (rcheckq_any A ms.length c base cap _ HN.out).mono ?_
  rw [if_pos hq]
  rintro e w1 ⟨rfl, b1⟩
  have T1 := Lib.hid (T0.out.below b1)
  have L1 := Lib.hid (below3 BL.out b1)
  clear b1 T0 a0 a1 h0 h1 h2 h3 h4 h5 h6 la lh
  have a0 : _ = some (Value.int .i64 base) := T1.out.q.cell 0
  have a1 : _ = some (Value.int .i64 cap) := T1.out.q.cell 1
  obtain ⟨h0, h1, h2, h3, h4, h5, h6⟩ := T1.out.h.c7
  have la := T1.out.q.lt
  have lh := T1.out.h.lt
  have HM := Lib.hid (may_any ⟨1, p, v, t, b, wn, 0⟩)
  go_wp2_with fail
  refine (HM.out _).mono ?_
  rw [decide_eq_true hm]
  rintro e w2 ⟨rfl, b2⟩
  have T2 := Lib.hid (T1.out.below b2)
  have L2 := Lib.hid (below3 L1.out b2)
  clear b2 T1 HM a0 a1 h0 h1 h2 h3 h4 h5 h6 la lh
  have a0 : _ = some (Value.int .i64 base) := T2.out.q.cell 0
  have a1 : _ = some (Value.int .i64 cap) := T2.out.q.cell 1
  obtain ⟨h0, h1, h2, h3, h4, h5, h6⟩ := T2.out.h.c7
  have la := T2.out.q.lt
  have lh := T2.out.h.lt
  have X2 := Lib.hid (HX.out.below L2.out)
  have HN2 : Hid (ms.length ≤ 65536) := Lib.hid hbig
  go_wp2_with (at_builtin; refine wpList_append_ints _ rfl _ _ 23 rfl 2 Try.underlying23 infoI (w.heap.size + 1 + 1 + 1) _ _ [] 0 rfl rfl (OwnI.nil_ _ _ _) _ _ _ ms rfl X2.out (by have := HN2.out; simp; omega) (by have := T2.out.r.r.lt; omega) ?_; intro A3 c3 w3 hown hgrow; rw [List.nil_append] at hown ⊢; have HO := Lib.hid hown; have b3 : Below w2.heap.size w2 w3 := (Below.refl _ _).grown hgrow (Nat.le_refl _) (by simp [Value.ownBlock]); have T3 := Lib.hid (T2.out.below b3); have L3 := Lib.hid (below3 L2.out b3); clear hown hgrow b3 a0 a1 h0 h1 h2 h3 h4 h5 h6 la lh; have a0 : _ = some (Value.int .i64 base) := T3.out.q.cell 0; have a1 : _ = some (Value.int .i64 cap) := T3.out.q.cell 1; obtain ⟨h0, h1, h2, h3, h4, h5, h6⟩ := T3.out.h.c7; have la := T3.out.q.lt; have lh := T3.out.h.lt)
  obtain ⟨gA, rfl, hgB, hgl, -, -⟩ := HO.out.form (by omega)
  have HA := Lib.hid (rpush_any c3 base cap gA (w.heap.size + 1 + 1 + 1) ms p v t b wn w3 (by have := T3.out.r.r.lt; omega) HO.out hgl hq fv hm)
  have HMH := Lib.hid hm
  have HOO := Lib.hid ho
  clear hm ho hq HO
  refine HA.out.mono ?_
  rintro e w4 ⟨ms2, hd2, ok, ⟨A4, c4, rfl, o4, b4⟩, ho4⟩
  rw [HOO.out] at ho4
  obtain ⟨k2, p2, v2, t2, b2, wn2, s2⟩ := hd2
  simp only [hv]
  have T4 := T3.out.below b4
  have L4 := below3 L3.out b4
  clear HA b4 T3 L3 X2 a0 a1 h0 h1 h2 h3 h4 h5 h6 la lh
  obtain ⟨h0, h1, h2, h3, h4, h5, h6⟩ := T4.h.c7
  obtain ⟨f0, f1, f2, f3, f4, f5, f6⟩ := T4.h.f7
  have lh := T4.h.lt
  have LV := Lib.hid (below_set7 L4 (by omega : w.heap.size ≤ w.heap.size + 1) (.int .i64 k2) (.int .i64 p2) (.int .i64 v2) (.int .i64 t2) (.int .i64 b2) (.bool wn2) (.int .i64 s2))
  have KV := bk_set7 T4.h (.int .i64 k2) (.int .i64 p2) (.int .i64 v2) (.int .i64 t2) (.int .i64 b2) (.bool wn2) (.int .i64 s2)
  have KQ := Bk.far7 T4.q (by omega : w.heap.size ≠ w.heap.size + 1) (.int .i64 k2) (.int .i64 p2) (.int .i64 v2) (.int .i64 t2) (.int .i64 b2) (.bool wn2) (.int .i64 s2)
  have KR := rbox_set T4.r (.int .i64 k2) (.int .i64 p2) (.int .i64 v2) (.int .i64 t2) (.int .i64 b2) (.bool wn2) (.int .i64 s2)
  have OV := Lib.hid (own_set7 o4 (by omega : w.heap.size + 1 < w.heap.size + 1 + 1 + 1) (.int .i64 k2) (.int .i64 p2) (.int .i64 v2) (.int .i64 t2) (.int .i64 b2) (.bool wn2) (.int .i64 s2))
  obtain ⟨V, hV⟩ : ∃ V, set7 w4 (w.heap.size + 1) (.int .i64 k2) (.int .i64 p2) (.int .i64 v2) (.int .i64 t2) (.int .i64 b2) (.bool wn2) (.int .i64 s2) = V := ⟨_, rfl⟩
  rw [hV] at LV KV KQ KR OV
  have TV := Lib.hid (⟨KQ, KV, KR⟩ : TBox w.heap.size base cap ⟨k2, p2, v2, t2, b2, wn2, s2⟩ V)
  unfold set7 at hV
  have HV := Lib.hid hV
  clear hV KV KQ KR T4 L4 o4
  have HOK := Lib.hid ho4
  clear ho4
  go_upto_region 12 with fail
  rw [HV.out]
  clear HV h0 h1 h2 h3 h4 h5 h6 f0 f1 f2 f3 f4 f5 f6 lh
  cases ok with
  | false =>
    have hon : o = none := HOK.out
    subst hon
    obtain ⟨q0, q1, q2, q3, q4, q5, q6⟩ := TV.out.r.r.c7
    obtain ⟨f0, f1, f2, f3, f4, f5, f6⟩ := TV.out.r.r.f7
    have lr := TV.out.r.r.lt
    have B2 := Lib.hid (below_set7 LV.out (by omega : w.heap.size ≤ w.heap.size + 1 + 1) (.int .i64 0) (.int .i64 0) (.int .i64 0) (.int .i64 0) (.int .i64 0) (.bool false) (.int .i64 0))
    have K2 := Lib.hid (bk_set7 TV.out.r.r (.int .i64 0) (.int .i64 0) (.int .i64 0) (.int .i64 0) (.int .i64 0) (.bool false) (.int .i64 0))
    go_wp2
    obtain ⟨r0, r1, r2, r3, r4, r5, r6⟩ := K2.out.c7
    unfold set7 at r0 r1 r2 r3 r4 r5 r6
    exact bodyPost_ret (v := .tuple #[.slice none 0 0, .agg #[.int .i64 0, .int .i64 0, .int .i64 0, .int .i64 0, .int .i64 0, .bool false, .int .i64 0], .int .i64 9]) (by simp [results, Try.results9, go_sem, r0, r1, r2, r3, r4, r5, r6]) rfl ⟨none, 0, rfl, OwnI.nil_ _ _ _, B2.out⟩
  | true =>
    have hon : o = some (ms2, ⟨k2, p2, v2, t2, b2, wn2, s2⟩) := HOK.out
    subst hon
    go_wp2_with fail
    have hS0 := TV.out.h.drew
    simp only at hS0
    refine wp_region_held (S := fun U => Bk U (w.heap.size + 1) 27 #[.int .i64 k2, .int .i64 p2, .int .i64 v2, .int .i64 t2, .int .i64 b2, .bool wn2, .int .i64 s2]) (by kernel_rfl) ?_
    change wpAnyH _ _ _ _ _ _ _ _ (World.drew V)
    have TD := TV.out.below (Below.refl _ _).drew
    have LD := LV.out.drew
    have OD := OV.out.below (Below.refl _ _).drew
    generalize V.drew = U0 at hS0 TD LD OD ⊢
    refine take_at (i := 0) (d := 59) (v := .slice A4 ms2.length c4) rfl rfl (by kernel_rfl) (by kernel_rfl) (by kernel_rfl) (fun _ _ _ h => h) (.inl ⟨by kernel_rfl, fun U hU => by go_simp⟩) hS0 ?_
    simp only [Act.put, List.setIfInBounds_toArray, List.set_cons_zero, List.set_cons_succ]
    refine take_at (i := 1) (d := 60) (v := .agg #[.int .i64 k2, .int .i64 p2, .int .i64 v2, .int .i64 t2, .int .i64 b2, .bool wn2, .int .i64 s2]) rfl rfl (by kernel_rfl) (by kernel_rfl) (by kernel_rfl) (fun _ _ _ h => h) (.inl ⟨by kernel_rfl, fun U hU => by obtain ⟨z0, z1, z2, z3, z4, z5, z6⟩ := hU.c7; go_simp⟩) hS0 ?_
    simp only [Act.put, List.setIfInBounds_toArray, List.set_cons_zero, List.set_cons_succ]
    refine take_at (i := 2) (d := 6) (v := .slice A4 ms2.length c4) rfl rfl (by kernel_rfl) (by kernel_rfl) (by kernel_rfl) (fun _ _ _ h => h) (.inl ⟨by kernel_rfl, fun U hU => by go_simp⟩) hS0 ?_
    simp only [Act.put, List.setIfInBounds_toArray, List.set_cons_zero, List.set_cons_succ]
    obtain ⟨q0, q1, q2, q3, q4, q5, q6⟩ := TD.r.r.c7
    obtain ⟨f0, f1, f2, f3, f4, f5, f6⟩ := TD.r.r.f7
    have lr := TD.r.r.lt
    have B2 := Lib.hid (below_set7 LD (by omega : w.heap.size ≤ w.heap.size + 1 + 1) (.int .i64 k2) (.int .i64 p2) (.int .i64 v2) (.int .i64 t2) (.int .i64 b2) (.bool wn2) (.int .i64 s2))
    have K2 := Lib.hid (bk_set7 TD.r.r (.int .i64 k2) (.int .i64 p2) (.int .i64 v2) (.int .i64 t2) (.int .i64 b2) (.bool wn2) (.int .i64 s2))
    have O2 := Lib.hid (own_set7 OD (by omega : w.heap.size + 1 + 1 < w.heap.size + 1 + 1 + 1) (.int .i64 k2) (.int .i64 p2) (.int .i64 v2) (.int .i64 t2) (.int .i64 b2) (.bool wn2) (.int .i64 s2))
    have hS9 := Lib.hid (Bk.far7 hS0 (by omega : w.heap.size + 1 ≠ w.heap.size + 1 + 1) (.int .i64 k2) (.int .i64 p2) (.int .i64 v2) (.int .i64 t2) (.int .i64 b2) (.bool wn2) (.int .i64 s2))
    unfold set7 at hS9
    refine wpAnyH_all (rs := [3]) (by kernel_rfl) (by simp) ?_
    intro i hi
    simp only [List.mem_cons, List.not_mem_nil, or_false] at hi
    subst hi
    unfold wpOp
    go_simp
    left
    refine ⟨hS9.out, ?_⟩
    clear q0 q1 q2 q3 q4 q5 q6 f0 f1 f2 f3 f4 f5 f6 lr
    refine take_at (i := 4) (d := 8) (v := .int .i64 0) rfl rfl (by kernel_rfl) (by kernel_rfl) (by kernel_rfl) (fun _ _ _ h => h) (.inl ⟨by kernel_rfl, fun U hU => by go_simp⟩) hS9.out ?_
    simp only [Act.put, List.setIfInBounds_toArray, List.set_cons_zero, List.set_cons_succ]
    refine wpAnyH_done (by kernel_rfl) ?_ _
    clear hS0
    go_wp2
    obtain ⟨r0, r1, r2, r3, r4, r5, r6⟩ := K2.out.c7
    unfold set7 at r0 r1 r2 r3 r4 r5 r6
    exact bodyPost_ret (v := .tuple #[.slice A4 ms2.length c4, .agg #[.int .i64 k2, .int .i64 p2, .int .i64 v2, .int .i64 t2, .int .i64 b2, .bool wn2, .int .i64 s2], .int .i64 0]) (by simp [results, Try.results9, go_sem, r0, r1, r2, r3, r4, r5, r6]) rfl ⟨A4, c4, rfl, O2.out.base (by omega), B2.out⟩

set_option maxRecDepth 100000 in
set_option maxHeartbeats 2000000 in
theorem rstep_2 (A : Option Addr) (c : Nat) (base cap : Nat) (ms : List Int) (k p v t b : Int) (wn : Bool) (s : Int) (w : World) (hx : Ints w A ms.length ms) (hq : MayQ ms.length base cap) (hm : MayH ⟨k, p, v, t, b, wn, s⟩) (hs : s = 0) (hk : k = 2) (o : Option (List Int × Hd)) (ho : accF ms base cap ⟨k, p, v, t, b, wn, s⟩ = o) :
    Calls Try.prog 9 #[.slice A ms.length c, .agg #[.int .i64 base, .int .i64 cap], hv ⟨k, p, v, t, b, wn, s⟩] w (StepOf (soloR o) w) := by
  subst hs hk
  have HN : Hid (ms.length ≤ 9223372036854775807) := Lib.hid (by have := hx.2.1; omega)
  have HX := Lib.hid hx
  have hbig := hq.1
  have hlen : base + 2 + cap ≤ ms.length := by have := hq.2.2.2.2.2; omega
  obtain ⟨tb, hbl⟩ := TBox.start w base cap ⟨2, p, v, t, b, wn, 0⟩
  obtain ⟨W, hW⟩ : ∃ W, (((w.alloc (.cells #[.int .i64 base, .int .i64 cap] 25)).alloc (.cells (hc ⟨2, p, v, t, b, wn, 0⟩) 27)).alloc (.cells z7 27)) = W := ⟨_, rfl⟩
  rw [hW] at tb hbl
  unfold hc z7 at hW
  have HW := Lib.hid hW
  have T0 := Lib.hid tb
  have BL := Lib.hid hbl
  clear hx hW tb hbl
  unfold hv
  go_enter Try.func9, Try.ntmps9
  go_upto_region 1 with fail
  rw [HW.out]
  clear HW
  have a0 : _ = some (Value.int .i64 base) := T0.out.q.cell 0
  have a1 : _ = some (Value.int .i64 cap) := T0.out.q.cell 1
  obtain ⟨h0, h1, h2, h3, h4, h5, h6⟩ := T0.out.h.c7
  have la := T0.out.q.lt
  have lh := T0.out.h.lt
  go_wp2_with fail
  refine (rcheckq_any A ms.length c base cap _ HN.out).mono ?_
  rw [if_pos hq]
  rintro e w1 ⟨rfl, b1⟩
  have T1 := Lib.hid (T0.out.below b1)
  have L1 := Lib.hid (below3 BL.out b1)
  clear b1 T0 a0 a1 h0 h1 h2 h3 h4 h5 h6 la lh
  have a0 : _ = some (Value.int .i64 base) := T1.out.q.cell 0
  have a1 : _ = some (Value.int .i64 cap) := T1.out.q.cell 1
  obtain ⟨h0, h1, h2, h3, h4, h5, h6⟩ := T1.out.h.c7
  have la := T1.out.q.lt
  have lh := T1.out.h.lt
  have HM := Lib.hid (may_any ⟨2, p, v, t, b, wn, 0⟩)
  go_wp2_with fail
  refine (HM.out _).mono ?_
  rw [decide_eq_true hm]
  rintro e w2 ⟨rfl, b2⟩
  have T2 := Lib.hid (T1.out.below b2)
  have L2 := Lib.hid (below3 L1.out b2)
  clear b2 T1 HM a0 a1 h0 h1 h2 h3 h4 h5 h6 la lh
  have a0 : _ = some (Value.int .i64 base) := T2.out.q.cell 0
  have a1 : _ = some (Value.int .i64 cap) := T2.out.q.cell 1
  obtain ⟨h0, h1, h2, h3, h4, h5, h6⟩ := T2.out.h.c7
  have la := T2.out.q.lt
  have lh := T2.out.h.lt
  have X2 := Lib.hid (HX.out.below L2.out)
  have HN2 : Hid (ms.length ≤ 65536) := Lib.hid hbig
  go_wp2_with (at_builtin; refine wpList_append_ints _ rfl _ _ 23 rfl 2 Try.underlying23 infoI (w.heap.size + 1 + 1 + 1) _ _ [] 0 rfl rfl (OwnI.nil_ _ _ _) _ _ _ ms rfl X2.out (by have := HN2.out; simp; omega) (by have := T2.out.r.r.lt; omega) ?_; intro A3 c3 w3 hown hgrow; rw [List.nil_append] at hown ⊢; have HO := Lib.hid hown; have b3 : Below w2.heap.size w2 w3 := (Below.refl _ _).grown hgrow (Nat.le_refl _) (by simp [Value.ownBlock]); have T3 := Lib.hid (T2.out.below b3); have L3 := Lib.hid (below3 L2.out b3); clear hown hgrow b3 a0 a1 h0 h1 h2 h3 h4 h5 h6 la lh; have a0 : _ = some (Value.int .i64 base) := T3.out.q.cell 0; have a1 : _ = some (Value.int .i64 cap) := T3.out.q.cell 1; obtain ⟨h0, h1, h2, h3, h4, h5, h6⟩ := T3.out.h.c7; have la := T3.out.q.lt; have lh := T3.out.h.lt)
  obtain ⟨gA, rfl, hgB, hgl, -, -⟩ := HO.out.form (by omega)
  have HA := Lib.hid (rpop_any c3 base cap gA (w.heap.size + 1 + 1 + 1) ms p v t b wn w3 (by have := T3.out.r.r.lt; omega) HO.out hgl hq hm)
  have HMH := Lib.hid hm
  have HOO := Lib.hid ho
  clear hm ho hq HO
  refine HA.out.mono ?_
  rintro e w4 ⟨ms2, hd2, ok, ⟨A4, c4, rfl, o4, b4⟩, ho4⟩
  rw [HOO.out] at ho4
  obtain ⟨k2, p2, v2, t2, b2, wn2, s2⟩ := hd2
  simp only [hv]
  have T4 := T3.out.below b4
  have L4 := below3 L3.out b4
  clear HA b4 T3 L3 X2 a0 a1 h0 h1 h2 h3 h4 h5 h6 la lh
  obtain ⟨h0, h1, h2, h3, h4, h5, h6⟩ := T4.h.c7
  obtain ⟨f0, f1, f2, f3, f4, f5, f6⟩ := T4.h.f7
  have lh := T4.h.lt
  have LV := Lib.hid (below_set7 L4 (by omega : w.heap.size ≤ w.heap.size + 1) (.int .i64 k2) (.int .i64 p2) (.int .i64 v2) (.int .i64 t2) (.int .i64 b2) (.bool wn2) (.int .i64 s2))
  have KV := bk_set7 T4.h (.int .i64 k2) (.int .i64 p2) (.int .i64 v2) (.int .i64 t2) (.int .i64 b2) (.bool wn2) (.int .i64 s2)
  have KQ := Bk.far7 T4.q (by omega : w.heap.size ≠ w.heap.size + 1) (.int .i64 k2) (.int .i64 p2) (.int .i64 v2) (.int .i64 t2) (.int .i64 b2) (.bool wn2) (.int .i64 s2)
  have KR := rbox_set T4.r (.int .i64 k2) (.int .i64 p2) (.int .i64 v2) (.int .i64 t2) (.int .i64 b2) (.bool wn2) (.int .i64 s2)
  have OV := Lib.hid (own_set7 o4 (by omega : w.heap.size + 1 < w.heap.size + 1 + 1 + 1) (.int .i64 k2) (.int .i64 p2) (.int .i64 v2) (.int .i64 t2) (.int .i64 b2) (.bool wn2) (.int .i64 s2))
  obtain ⟨V, hV⟩ : ∃ V, set7 w4 (w.heap.size + 1) (.int .i64 k2) (.int .i64 p2) (.int .i64 v2) (.int .i64 t2) (.int .i64 b2) (.bool wn2) (.int .i64 s2) = V := ⟨_, rfl⟩
  rw [hV] at LV KV KQ KR OV
  have TV := Lib.hid (⟨KQ, KV, KR⟩ : TBox w.heap.size base cap ⟨k2, p2, v2, t2, b2, wn2, s2⟩ V)
  unfold set7 at hV
  have HV := Lib.hid hV
  clear hV KV KQ KR T4 L4 o4
  have HOK := Lib.hid ho4
  clear ho4
  go_upto_region 12 with fail
  rw [HV.out]
  clear HV h0 h1 h2 h3 h4 h5 h6 f0 f1 f2 f3 f4 f5 f6 lh
  cases ok with
  | false =>
    have hon : o = none := HOK.out
    subst hon
    obtain ⟨q0, q1, q2, q3, q4, q5, q6⟩ := TV.out.r.r.c7
    obtain ⟨f0, f1, f2, f3, f4, f5, f6⟩ := TV.out.r.r.f7
    have lr := TV.out.r.r.lt
    have B2 := Lib.hid (below_set7 LV.out (by omega : w.heap.size ≤ w.heap.size + 1 + 1) (.int .i64 0) (.int .i64 0) (.int .i64 0) (.int .i64 0) (.int .i64 0) (.bool false) (.int .i64 0))
    have K2 := Lib.hid (bk_set7 TV.out.r.r (.int .i64 0) (.int .i64 0) (.int .i64 0) (.int .i64 0) (.int .i64 0) (.bool false) (.int .i64 0))
    go_wp2
    obtain ⟨r0, r1, r2, r3, r4, r5, r6⟩ := K2.out.c7
    unfold set7 at r0 r1 r2 r3 r4 r5 r6
    exact bodyPost_ret (v := .tuple #[.slice none 0 0, .agg #[.int .i64 0, .int .i64 0, .int .i64 0, .int .i64 0, .int .i64 0, .bool false, .int .i64 0], .int .i64 9]) (by simp [results, Try.results9, go_sem, r0, r1, r2, r3, r4, r5, r6]) rfl ⟨none, 0, rfl, OwnI.nil_ _ _ _, B2.out⟩
  | true =>
    have hon : o = some (ms2, ⟨k2, p2, v2, t2, b2, wn2, s2⟩) := HOK.out
    subst hon
    go_wp2_with fail
    have hS0 := TV.out.h.drew
    simp only at hS0
    refine wp_region_held (S := fun U => Bk U (w.heap.size + 1) 27 #[.int .i64 k2, .int .i64 p2, .int .i64 v2, .int .i64 t2, .int .i64 b2, .bool wn2, .int .i64 s2]) (by kernel_rfl) ?_
    change wpAnyH _ _ _ _ _ _ _ _ (World.drew V)
    have TD := TV.out.below (Below.refl _ _).drew
    have LD := LV.out.drew
    have OD := OV.out.below (Below.refl _ _).drew
    generalize V.drew = U0 at hS0 TD LD OD ⊢
    refine take_at (i := 0) (d := 59) (v := .slice A4 ms2.length c4) rfl rfl (by kernel_rfl) (by kernel_rfl) (by kernel_rfl) (fun _ _ _ h => h) (.inl ⟨by kernel_rfl, fun U hU => by go_simp⟩) hS0 ?_
    simp only [Act.put, List.setIfInBounds_toArray, List.set_cons_zero, List.set_cons_succ]
    refine take_at (i := 1) (d := 60) (v := .agg #[.int .i64 k2, .int .i64 p2, .int .i64 v2, .int .i64 t2, .int .i64 b2, .bool wn2, .int .i64 s2]) rfl rfl (by kernel_rfl) (by kernel_rfl) (by kernel_rfl) (fun _ _ _ h => h) (.inl ⟨by kernel_rfl, fun U hU => by obtain ⟨z0, z1, z2, z3, z4, z5, z6⟩ := hU.c7; go_simp⟩) hS0 ?_
    simp only [Act.put, List.setIfInBounds_toArray, List.set_cons_zero, List.set_cons_succ]
    refine take_at (i := 2) (d := 6) (v := .slice A4 ms2.length c4) rfl rfl (by kernel_rfl) (by kernel_rfl) (by kernel_rfl) (fun _ _ _ h => h) (.inl ⟨by kernel_rfl, fun U hU => by go_simp⟩) hS0 ?_
    simp only [Act.put, List.setIfInBounds_toArray, List.set_cons_zero, List.set_cons_succ]
    obtain ⟨q0, q1, q2, q3, q4, q5, q6⟩ := TD.r.r.c7
    obtain ⟨f0, f1, f2, f3, f4, f5, f6⟩ := TD.r.r.f7
    have lr := TD.r.r.lt
    have B2 := Lib.hid (below_set7 LD (by omega : w.heap.size ≤ w.heap.size + 1 + 1) (.int .i64 k2) (.int .i64 p2) (.int .i64 v2) (.int .i64 t2) (.int .i64 b2) (.bool wn2) (.int .i64 s2))
    have K2 := Lib.hid (bk_set7 TD.r.r (.int .i64 k2) (.int .i64 p2) (.int .i64 v2) (.int .i64 t2) (.int .i64 b2) (.bool wn2) (.int .i64 s2))
    have O2 := Lib.hid (own_set7 OD (by omega : w.heap.size + 1 + 1 < w.heap.size + 1 + 1 + 1) (.int .i64 k2) (.int .i64 p2) (.int .i64 v2) (.int .i64 t2) (.int .i64 b2) (.bool wn2) (.int .i64 s2))
    have hS9 := Lib.hid (Bk.far7 hS0 (by omega : w.heap.size + 1 ≠ w.heap.size + 1 + 1) (.int .i64 k2) (.int .i64 p2) (.int .i64 v2) (.int .i64 t2) (.int .i64 b2) (.bool wn2) (.int .i64 s2))
    unfold set7 at hS9
    refine wpAnyH_all (rs := [3]) (by kernel_rfl) (by simp) ?_
    intro i hi
    simp only [List.mem_cons, List.not_mem_nil, or_false] at hi
    subst hi
    unfold wpOp
    go_simp
    left
    refine ⟨hS9.out, ?_⟩
    clear q0 q1 q2 q3 q4 q5 q6 f0 f1 f2 f3 f4 f5 f6 lr
    refine take_at (i := 4) (d := 8) (v := .int .i64 0) rfl rfl (by kernel_rfl) (by kernel_rfl) (by kernel_rfl) (fun _ _ _ h => h) (.inl ⟨by kernel_rfl, fun U hU => by go_simp⟩) hS9.out ?_
    simp only [Act.put, List.setIfInBounds_toArray, List.set_cons_zero, List.set_cons_succ]
    refine wpAnyH_done (by kernel_rfl) ?_ _
    clear hS0
    go_wp2
    obtain ⟨r0, r1, r2, r3, r4, r5, r6⟩ := K2.out.c7
    unfold set7 at r0 r1 r2 r3 r4 r5 r6
    exact bodyPost_ret (v := .tuple #[.slice A4 ms2.length c4, .agg #[.int .i64 k2, .int .i64 p2, .int .i64 v2, .int .i64 t2, .int .i64 b2, .bool wn2, .int .i64 s2], .int .i64 0]) (by simp [results, Try.results9, go_sem, r0, r1, r2, r3, r4, r5, r6]) rfl ⟨A4, c4, rfl, O2.out.base (by omega), B2.out⟩

set_option maxRecDepth 100000 in
set_option maxHeartbeats 2000000 in
theorem rstep_3 (A : Option Addr) (c : Nat) (base cap : Nat) (ms : List Int) (k p v t b : Int) (wn : Bool) (s : Int) (w : World) (hx : Ints w A ms.length ms) (hq : MayQ ms.length base cap) (hm : MayH ⟨k, p, v, t, b, wn, s⟩) (hs : s = 0) (hk : k = 3) (o : Option (List Int × Hd)) (ho : accF ms base cap ⟨k, p, v, t, b, wn, s⟩ = o) :
    Calls Try.prog 9 #[.slice A ms.length c, .agg #[.int .i64 base, .int .i64 cap], hv ⟨k, p, v, t, b, wn, s⟩] w (StepOf (soloR o) w) := by
  subst hs hk
  have HN : Hid (ms.length ≤ 9223372036854775807) := Lib.hid (by have := hx.2.1; omega)
  have HX := Lib.hid hx
  have hbig := hq.1
  have hlen : base + 2 + cap ≤ ms.length := by have := hq.2.2.2.2.2; omega
  obtain ⟨tb, hbl⟩ := TBox.start w base cap ⟨3, p, v, t, b, wn, 0⟩
  obtain ⟨W, hW⟩ : ∃ W, (((w.alloc (.cells #[.int .i64 base, .int .i64 cap] 25)).alloc (.cells (hc ⟨3, p, v, t, b, wn, 0⟩) 27)).alloc (.cells z7 27)) = W := ⟨_, rfl⟩
  rw [hW] at tb hbl
  unfold hc z7 at hW
  have HW := Lib.hid hW
  have T0 := Lib.hid tb
  have BL := Lib.hid hbl
  clear hx hW tb hbl
  unfold hv
  go_enter Try.func9, Try.ntmps9
  go_upto_region 1 with fail
  rw [HW.out]
  clear HW
  have a0 : _ = some (Value.int .i64 base) := T0.out.q.cell 0
  have a1 : _ = some (Value.int .i64 cap) := T0.out.q.cell 1
  obtain ⟨h0, h1, h2, h3, h4, h5, h6⟩ := T0.out.h.c7
  have la := T0.out.q.lt
  have lh := T0.out.h.lt
  go_wp2_with fail
  refine (rcheckq_any A ms.length c base cap _ HN.out).mono ?_
  rw [if_pos hq]
  rintro e w1 ⟨rfl, b1⟩
  have T1 := Lib.hid (T0.out.below b1)
  have L1 := Lib.hid (below3 BL.out b1)
  clear b1 T0 a0 a1 h0 h1 h2 h3 h4 h5 h6 la lh
  have a0 : _ = some (Value.int .i64 base) := T1.out.q.cell 0
  have a1 : _ = some (Value.int .i64 cap) := T1.out.q.cell 1
  obtain ⟨h0, h1, h2, h3, h4, h5, h6⟩ := T1.out.h.c7
  have la := T1.out.q.lt
  have lh := T1.out.h.lt
  have HM := Lib.hid (may_any ⟨3, p, v, t, b, wn, 0⟩)
  go_wp2_with fail
  refine (HM.out _).mono ?_
  rw [decide_eq_true hm]
  rintro e w2 ⟨rfl, b2⟩
  have T2 := Lib.hid (T1.out.below b2)
  have L2 := Lib.hid (below3 L1.out b2)
  clear b2 T1 HM a0 a1 h0 h1 h2 h3 h4 h5 h6 la lh
  have a0 : _ = some (Value.int .i64 base) := T2.out.q.cell 0
  have a1 : _ = some (Value.int .i64 cap) := T2.out.q.cell 1
  obtain ⟨h0, h1, h2, h3, h4, h5, h6⟩ := T2.out.h.c7
  have la := T2.out.q.lt
  have lh := T2.out.h.lt
  have X2 := Lib.hid (HX.out.below L2.out)
  have HN2 : Hid (ms.length ≤ 65536) := Lib.hid hbig
  go_wp2_with (at_builtin; refine wpList_append_ints _ rfl _ _ 23 rfl 2 Try.underlying23 infoI (w.heap.size + 1 + 1 + 1) _ _ [] 0 rfl rfl (OwnI.nil_ _ _ _) _ _ _ ms rfl X2.out (by have := HN2.out; simp; omega) (by have := T2.out.r.r.lt; omega) ?_; intro A3 c3 w3 hown hgrow; rw [List.nil_append] at hown ⊢; have HO := Lib.hid hown; have b3 : Below w2.heap.size w2 w3 := (Below.refl _ _).grown hgrow (Nat.le_refl _) (by simp [Value.ownBlock]); have T3 := Lib.hid (T2.out.below b3); have L3 := Lib.hid (below3 L2.out b3); clear hown hgrow b3 a0 a1 h0 h1 h2 h3 h4 h5 h6 la lh; have a0 : _ = some (Value.int .i64 base) := T3.out.q.cell 0; have a1 : _ = some (Value.int .i64 cap) := T3.out.q.cell 1; obtain ⟨h0, h1, h2, h3, h4, h5, h6⟩ := T3.out.h.c7; have la := T3.out.q.lt; have lh := T3.out.h.lt)
  obtain ⟨gA, rfl, hgB, hgl, -, -⟩ := HO.out.form (by omega)
  have HA := Lib.hid (rsteal_any c3 base cap gA (w.heap.size + 1 + 1 + 1) ms p v t b wn w3 (by have := T3.out.r.r.lt; omega) HO.out hgl hq hm)
  have HMH := Lib.hid hm
  have HOO := Lib.hid ho
  clear hm ho hq HO
  refine HA.out.mono ?_
  rintro e w4 ⟨ms2, hd2, ok, ⟨A4, c4, rfl, o4, b4⟩, ho4⟩
  rw [HOO.out] at ho4
  obtain ⟨k2, p2, v2, t2, b2, wn2, s2⟩ := hd2
  simp only [hv]
  have T4 := T3.out.below b4
  have L4 := below3 L3.out b4
  clear HA b4 T3 L3 X2 a0 a1 h0 h1 h2 h3 h4 h5 h6 la lh
  obtain ⟨h0, h1, h2, h3, h4, h5, h6⟩ := T4.h.c7
  obtain ⟨f0, f1, f2, f3, f4, f5, f6⟩ := T4.h.f7
  have lh := T4.h.lt
  have LV := Lib.hid (below_set7 L4 (by omega : w.heap.size ≤ w.heap.size + 1) (.int .i64 k2) (.int .i64 p2) (.int .i64 v2) (.int .i64 t2) (.int .i64 b2) (.bool wn2) (.int .i64 s2))
  have KV := bk_set7 T4.h (.int .i64 k2) (.int .i64 p2) (.int .i64 v2) (.int .i64 t2) (.int .i64 b2) (.bool wn2) (.int .i64 s2)
  have KQ := Bk.far7 T4.q (by omega : w.heap.size ≠ w.heap.size + 1) (.int .i64 k2) (.int .i64 p2) (.int .i64 v2) (.int .i64 t2) (.int .i64 b2) (.bool wn2) (.int .i64 s2)
  have KR := rbox_set T4.r (.int .i64 k2) (.int .i64 p2) (.int .i64 v2) (.int .i64 t2) (.int .i64 b2) (.bool wn2) (.int .i64 s2)
  have OV := Lib.hid (own_set7 o4 (by omega : w.heap.size + 1 < w.heap.size + 1 + 1 + 1) (.int .i64 k2) (.int .i64 p2) (.int .i64 v2) (.int .i64 t2) (.int .i64 b2) (.bool wn2) (.int .i64 s2))
  obtain ⟨V, hV⟩ : ∃ V, set7 w4 (w.heap.size + 1) (.int .i64 k2) (.int .i64 p2) (.int .i64 v2) (.int .i64 t2) (.int .i64 b2) (.bool wn2) (.int .i64 s2) = V := ⟨_, rfl⟩
  rw [hV] at LV KV KQ KR OV
  have TV := Lib.hid (⟨KQ, KV, KR⟩ : TBox w.heap.size base cap ⟨k2, p2, v2, t2, b2, wn2, s2⟩ V)
  unfold set7 at hV
  have HV := Lib.hid hV
  clear hV KV KQ KR T4 L4 o4
  have HOK := Lib.hid ho4
  clear ho4
  go_upto_region 12 with fail
  rw [HV.out]
  clear HV h0 h1 h2 h3 h4 h5 h6 f0 f1 f2 f3 f4 f5 f6 lh
  cases ok with
  | false =>
    have hon : o = none := HOK.out
    subst hon
    obtain ⟨q0, q1, q2, q3, q4, q5, q6⟩ := TV.out.r.r.c7
    obtain ⟨f0, f1, f2, f3, f4, f5, f6⟩ := TV.out.r.r.f7
    have lr := TV.out.r.r.lt
    have B2 := Lib.hid (below_set7 LV.out (by omega : w.heap.size ≤ w.heap.size + 1 + 1) (.int .i64 0) (.int .i64 0) (.int .i64 0) (.int .i64 0) (.int .i64 0) (.bool false) (.int .i64 0))
    have K2 := Lib.hid (bk_set7 TV.out.r.r (.int .i64 0) (.int .i64 0) (.int .i64 0) (.int .i64 0) (.int .i64 0) (.bool false) (.int .i64 0))
    go_wp2
    obtain ⟨r0, r1, r2, r3, r4, r5, r6⟩ := K2.out.c7
    unfold set7 at r0 r1 r2 r3 r4 r5 r6
    exact bodyPost_ret (v := .tuple #[.slice none 0 0, .agg #[.int .i64 0, .int .i64 0, .int .i64 0, .int .i64 0, .int .i64 0, .bool false, .int .i64 0], .int .i64 9]) (by simp [results, Try.results9, go_sem, r0, r1, r2, r3, r4, r5, r6]) rfl ⟨none, 0, rfl, OwnI.nil_ _ _ _, B2.out⟩
  | true =>
    have hon : o = some (ms2, ⟨k2, p2, v2, t2, b2, wn2, s2⟩) := HOK.out
    subst hon
    go_wp2_with fail
    have hS0 := TV.out.h.drew
    simp only at hS0
    refine wp_region_held (S := fun U => Bk U (w.heap.size + 1) 27 #[.int .i64 k2, .int .i64 p2, .int .i64 v2, .int .i64 t2, .int .i64 b2, .bool wn2, .int .i64 s2]) (by kernel_rfl) ?_
    change wpAnyH _ _ _ _ _ _ _ _ (World.drew V)
    have TD := TV.out.below (Below.refl _ _).drew
    have LD := LV.out.drew
    have OD := OV.out.below (Below.refl _ _).drew
    generalize V.drew = U0 at hS0 TD LD OD ⊢
    refine take_at (i := 0) (d := 59) (v := .slice A4 ms2.length c4) rfl rfl (by kernel_rfl) (by kernel_rfl) (by kernel_rfl) (fun _ _ _ h => h) (.inl ⟨by kernel_rfl, fun U hU => by go_simp⟩) hS0 ?_
    simp only [Act.put, List.setIfInBounds_toArray, List.set_cons_zero, List.set_cons_succ]
    refine take_at (i := 1) (d := 60) (v := .agg #[.int .i64 k2, .int .i64 p2, .int .i64 v2, .int .i64 t2, .int .i64 b2, .bool wn2, .int .i64 s2]) rfl rfl (by kernel_rfl) (by kernel_rfl) (by kernel_rfl) (fun _ _ _ h => h) (.inl ⟨by kernel_rfl, fun U hU => by obtain ⟨z0, z1, z2, z3, z4, z5, z6⟩ := hU.c7; go_simp⟩) hS0 ?_
    simp only [Act.put, List.setIfInBounds_toArray, List.set_cons_zero, List.set_cons_succ]
    refine take_at (i := 2) (d := 6) (v := .slice A4 ms2.length c4) rfl rfl (by kernel_rfl) (by kernel_rfl) (by kernel_rfl) (fun _ _ _ h => h) (.inl ⟨by kernel_rfl, fun U hU => by go_simp⟩) hS0 ?_
    simp only [Act.put, List.setIfInBounds_toArray, List.set_cons_zero, List.set_cons_succ]
    obtain ⟨q0, q1, q2, q3, q4, q5, q6⟩ := TD.r.r.c7
    obtain ⟨f0, f1, f2, f3, f4, f5, f6⟩ := TD.r.r.f7
    have lr := TD.r.r.lt
    have B2 := Lib.hid (below_set7 LD (by omega : w.heap.size ≤ w.heap.size + 1 + 1) (.int .i64 k2) (.int .i64 p2) (.int .i64 v2) (.int .i64 t2) (.int .i64 b2) (.bool wn2) (.int .i64 s2))
    have K2 := Lib.hid (bk_set7 TD.r.r (.int .i64 k2) (.int .i64 p2) (.int .i64 v2) (.int .i64 t2) (.int .i64 b2) (.bool wn2) (.int .i64 s2))
    have O2 := Lib.hid (own_set7 OD (by omega : w.heap.size + 1 + 1 < w.heap.size + 1 + 1 + 1) (.int .i64 k2) (.int .i64 p2) (.int .i64 v2) (.int .i64 t2) (.int .i64 b2) (.bool wn2) (.int .i64 s2))
    have hS9 := Lib.hid (Bk.far7 hS0 (by omega : w.heap.size + 1 ≠ w.heap.size + 1 + 1) (.int .i64 k2) (.int .i64 p2) (.int .i64 v2) (.int .i64 t2) (.int .i64 b2) (.bool wn2) (.int .i64 s2))
    unfold set7 at hS9
    refine wpAnyH_all (rs := [3]) (by kernel_rfl) (by simp) ?_
    intro i hi
    simp only [List.mem_cons, List.not_mem_nil, or_false] at hi
    subst hi
    unfold wpOp
    go_simp
    left
    refine ⟨hS9.out, ?_⟩
    clear q0 q1 q2 q3 q4 q5 q6 f0 f1 f2 f3 f4 f5 f6 lr
    refine take_at (i := 4) (d := 8) (v := .int .i64 0) rfl rfl (by kernel_rfl) (by kernel_rfl) (by kernel_rfl) (fun _ _ _ h => h) (.inl ⟨by kernel_rfl, fun U hU => by go_simp⟩) hS9.out ?_
    simp only [Act.put, List.setIfInBounds_toArray, List.set_cons_zero, List.set_cons_succ]
    refine wpAnyH_done (by kernel_rfl) ?_ _
    clear hS0
    go_wp2
    obtain ⟨r0, r1, r2, r3, r4, r5, r6⟩ := K2.out.c7
    unfold set7 at r0 r1 r2 r3 r4 r5 r6
    exact bodyPost_ret (v := .tuple #[.slice A4 ms2.length c4, .agg #[.int .i64 k2, .int .i64 p2, .int .i64 v2, .int .i64 t2, .int .i64 b2, .bool wn2, .int .i64 s2], .int .i64 0]) (by simp [results, Try.results9, go_sem, r0, r1, r2, r3, r4, r5, r6]) rfl ⟨A4, c4, rfl, O2.out.base (by omega), B2.out⟩

theorem rstep_any (A : Option Addr) (n c : Nat) (base cap : Int) (ms : List Int) (h : Hd) (w : World) (hx : Ints w A n ms) (fh : HdF h) :
    Calls Try.prog 9 #[.slice A n c, .agg #[.int .i64 base, .int .i64 cap], hv h] w (StepOf (stepF ms base cap h) w) := by
  obtain rfl := hx.1
  obtain ⟨k, p, v, t, b, wn, s⟩ := h
  unfold stepF
  by_cases hq : MayQ ms.length base cap
  · by_cases hm : MayH ⟨k, p, v, t, b, wn, s⟩
    · rw [if_pos ⟨hm, hq⟩]
      by_cases hs : s = 0
      · rw [if_pos hs]
        obtain ⟨bn, rfl⟩ : ∃ bn : Nat, base = bn := ⟨base.toNat, by have := hq.2.2.2.1; omega⟩
        obtain ⟨cn, rfl⟩ : ∃ cn : Nat, cap = cn := ⟨cap.toNat, by have := hq.2.1; omega⟩
        simp only [Int.toNat_natCast]
        have hk := pcs_kind (Int.lt_of_le_of_lt hm.1 hm.2.1)
        simp only at hk
        rcases hk with hk | hk | hk
        · exact rstep_1 A c bn cn ms k p v t b wn s w hx hq hm hs hk fh.v _ rfl
        · exact rstep_2 A c bn cn ms k p v t b wn s w hx hq hm hs hk _ rfl
        · exact rstep_3 A c bn cn ms k p v t b wn s w hx hq hm hs hk _ rfl
      · rw [if_neg hs]
        exact rstep_s A _ c base cap ms k p v t b wn s w hx hq hm hs
    · rw [if_neg (fun q => hm q.1)]
      exact rstep_h A _ c base cap ms k p v t b wn s w hx hq hm
  · rw [if_neg (fun q => hq q.2)]
    exact rstep_q A _ c base cap ms k p v t b wn s w hx hq

end Go.Proofs.Ytfmiamjbhlglbaa

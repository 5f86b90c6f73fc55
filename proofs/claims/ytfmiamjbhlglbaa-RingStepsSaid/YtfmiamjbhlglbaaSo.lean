/-
  The document's Solo (layer 7): Step after Step.
-/
import Derived.Test.YtfmiamjbhlglbaaRz
import Derived.Deep.LoopGhost
namespace Go.Proofs.Ytfmiamjbhlglbaa
open Go.RowKit

set_option maxRecDepth 100000 in
set_option maxHeartbeats 2000000 in
theorem rsolo_q (A : Option Addr) (n c : Nat) (base cap : Int) (ms : List Int) (k p v t b : Int) (wn : Bool) (s : Int) (w : World) (hx : Ints w A n ms) (hq : ¬ MayQ n base cap) :
    Calls Try.prog 11 #[.slice A n c, .agg #[.int .i64 base, .int .i64 cap], hv ⟨k, p, v, t, b, wn, s⟩] w (StepOf (1, [], noH) w) := by
  have HN : Hid (n ≤ 9223372036854775807) := Lib.hid (by have := hx.2.1; omega)
  have HX := Lib.hid hx
  obtain ⟨tb, hbl⟩ := TBox.start w base cap ⟨k, p, v, t, b, wn, s⟩
  obtain ⟨W, hW⟩ : ∃ W, (((w.alloc (.cells #[.int .i64 base, .int .i64 cap] 25)).alloc (.cells (hc ⟨k, p, v, t, b, wn, s⟩) 27)).alloc (.cells z7 27)) = W := ⟨_, rfl⟩
  rw [hW] at tb hbl
  unfold hc z7 at hW
  have HW := Lib.hid hW
  have T0 := Lib.hid tb
  have BL := Lib.hid hbl
  clear hx hW tb hbl
  unfold hv
  go_enter Try.func11, Try.ntmps11
  go_upto_region 1 with fail
  rw [HW.out]
  clear HW
  have a0 : _ = some (Value.int .i64 base) := T0.out.q.cell 0
  have a1 : _ = some (Value.int .i64 cap) := T0.out.q.cell 1
  obtain ⟨h0, h1, h2, h3, h4, h5, h6⟩ := T0.out.h.c7
  have la := T0.out.q.lt
  have lh := T0.out.h.lt
  go_wp2_with fail
  refine (rcheckq_any A n c base cap _ HN.out).mono ?_
  rw [if_neg hq]
  rintro e w1 ⟨rfl, b1⟩
  have T1 := Lib.hid (T0.out.below b1)
  have L1 := Lib.hid (below3 BL.out b1)
  clear b1 T0 a0 a1 h0 h1 h2 h3 h4 h5 h6 la lh
  obtain ⟨q0, q1, q2, q3, q4, q5, q6⟩ := T1.out.r.r.c7
  obtain ⟨f0, f1, f2, f3, f4, f5, f6⟩ := T1.out.r.r.f7
  have lr := T1.out.r.r.lt
  have B2 := Lib.hid (below_set7 L1.out (by omega : w.heap.size ≤ w.heap.size + 1 + 1) (.int .i64 0) (.int .i64 0) (.int .i64 0) (.int .i64 0) (.int .i64 0) (.bool false) (.int .i64 0))
  have K2 := Lib.hid (bk_set7 T1.out.r.r (.int .i64 0) (.int .i64 0) (.int .i64 0) (.int .i64 0) (.int .i64 0) (.bool false) (.int .i64 0))
  go_wp2
  obtain ⟨r0, r1, r2, r3, r4, r5, r6⟩ := K2.out.c7
  unfold set7 at r0 r1 r2 r3 r4 r5 r6
  exact bodyPost_ret (v := .tuple #[.slice none 0 0, .agg #[.int .i64 0, .int .i64 0, .int .i64 0, .int .i64 0, .int .i64 0, .bool false, .int .i64 0], .int .i64 1]) (by simp [results, Try.results11, go_sem, r0, r1, r2, r3, r4, r5, r6]) rfl ⟨none, 0, rfl, OwnI.nil_ _ _ _, B2.out⟩

set_option maxRecDepth 100000 in
set_option maxHeartbeats 2000000 in
theorem rsolo_h (A : Option Addr) (n c : Nat) (base cap : Int) (ms : List Int) (k p v t b : Int) (wn : Bool) (s : Int) (w : World) (hx : Ints w A n ms) (hq : MayQ n base cap) (hm : ¬ MayH ⟨k, p, v, t, b, wn, s⟩) :
    Calls Try.prog 11 #[.slice A n c, .agg #[.int .i64 base, .int .i64 cap], hv ⟨k, p, v, t, b, wn, s⟩] w (StepOf (1, [], noH) w) := by
  have HN : Hid (n ≤ 9223372036854775807) := Lib.hid (by have := hx.2.1; omega)
  have HX := Lib.hid hx
  obtain ⟨tb, hbl⟩ := TBox.start w base cap ⟨k, p, v, t, b, wn, s⟩
  obtain ⟨W, hW⟩ : ∃ W, (((w.alloc (.cells #[.int .i64 base, .int .i64 cap] 25)).alloc (.cells (hc ⟨k, p, v, t, b, wn, s⟩) 27)).alloc (.cells z7 27)) = W := ⟨_, rfl⟩
  rw [hW] at tb hbl
  unfold hc z7 at hW
  have HW := Lib.hid hW
  have T0 := Lib.hid tb
  have BL := Lib.hid hbl
  clear hx hW tb hbl
  unfold hv
  go_enter Try.func11, Try.ntmps11
  go_upto_region 1 with fail
  rw [HW.out]
  clear HW
  have a0 : _ = some (Value.int .i64 base) := T0.out.q.cell 0
  have a1 : _ = some (Value.int .i64 cap) := T0.out.q.cell 1
  obtain ⟨h0, h1, h2, h3, h4, h5, h6⟩ := T0.out.h.c7
  have la := T0.out.q.lt
  have lh := T0.out.h.lt
  go_wp2_with fail
  refine (rcheckq_any A n c base cap _ HN.out).mono ?_
  rw [if_pos hq]
  rintro e w1 ⟨rfl, b1⟩
  have T1 := Lib.hid (T0.out.below b1)
  have L1 := Lib.hid (below3 BL.out b1)
  clear b1 T0 a0 a1 h0 h1 h2 h3 h4 h5 h6 la lh
  have a0 : _ = some (Value.int .i64 base) := T1.out.q.cell 0
  have a1 : _ = some (Value.int .i64 cap) := T1.out.q.cell 1
  obtain ⟨h0, h1, h2, h3, h4, h5, h6⟩ := T1.out.h.c7
  have la := T1.out.q.lt
  have lh := T1.out.h.lt
  have HM := Lib.hid (may_any ⟨k, p, v, t, b, wn, s⟩)
  go_wp2_with fail
  refine (HM.out _).mono ?_
  rw [decide_eq_false hm]
  rintro e w2 ⟨rfl, b2⟩
  have T2 := Lib.hid (T1.out.below b2)
  have L2 := Lib.hid (below3 L1.out b2)
  clear b2 T1 HM a0 a1 h0 h1 h2 h3 h4 h5 h6 la lh
  obtain ⟨q0, q1, q2, q3, q4, q5, q6⟩ := T2.out.r.r.c7
  obtain ⟨f0, f1, f2, f3, f4, f5, f6⟩ := T2.out.r.r.f7
  have lr := T2.out.r.r.lt
  have B2 := Lib.hid (below_set7 L2.out (by omega : w.heap.size ≤ w.heap.size + 1 + 1) (.int .i64 0) (.int .i64 0) (.int .i64 0) (.int .i64 0) (.int .i64 0) (.bool false) (.int .i64 0))
  have K2 := Lib.hid (bk_set7 T2.out.r.r (.int .i64 0) (.int .i64 0) (.int .i64 0) (.int .i64 0) (.int .i64 0) (.bool false) (.int .i64 0))
  go_wp2
  obtain ⟨r0, r1, r2, r3, r4, r5, r6⟩ := K2.out.c7
  unfold set7 at r0 r1 r2 r3 r4 r5 r6
  exact bodyPost_ret (v := .tuple #[.slice none 0 0, .agg #[.int .i64 0, .int .i64 0, .int .i64 0, .int .i64 0, .int .i64 0, .bool false, .int .i64 0], .int .i64 1]) (by simp [results, Try.results11, go_sem, r0, r1, r2, r3, r4, r5, r6]) rfl ⟨none, 0, rfl, OwnI.nil_ _ _ _, B2.out⟩

def SoRel2 (w : World) (bn cn : Nat) (o : Option (List Int × Hd)) (len k : Nat) (t : Value) (W : World) : Prop :=
  ∃ A c ms h, t = .slice A ms.length c ∧ SoI W w bn cn A c ms h ∧ MayH h ∧ Fit h.v ∧ soloF bn cn k ms h = o ∧ (h.state = 0 → 8 ≤ (k : Int) + h.pc) ∧ ms.length = len
set_option maxRecDepth 100000 in
set_option maxHeartbeats 2000000 in
theorem rsolo_ok (A : Option Addr) (c : Nat) (base cap : Nat) (ms : List Int) (k p v t b : Int) (wn : Bool) (s : Int) (w : World) (hx : Ints w A ms.length ms) (hq : MayQ ms.length base cap) (hm : MayH ⟨k, p, v, t, b, wn, s⟩) (fv : Fit v) (o : Option (List Int × Hd)) (ho : soloF base cap 8 ms ⟨k, p, v, t, b, wn, s⟩ = o) :
    Calls Try.prog 11 #[.slice A ms.length c, .agg #[.int .i64 base, .int .i64 cap], hv ⟨k, p, v, t, b, wn, s⟩] w (StepOf (soloR o) w) := by
  have HN : Hid (ms.length ≤ 9223372036854775807) := Lib.hid (by have := hx.2.1; omega)
  have HX := Lib.hid hx
  have hbig := hq.1
  have hlen : base + 2 + cap ≤ ms.length := by have := hq.2.2.2.2.2; omega
  obtain ⟨tb, hbl⟩ := TBox.start w base cap ⟨k, p, v, t, b, wn, s⟩
  obtain ⟨W, hW⟩ : ∃ W, (((w.alloc (.cells #[.int .i64 base, .int .i64 cap] 25)).alloc (.cells (hc ⟨k, p, v, t, b, wn, s⟩) 27)).alloc (.cells z7 27)) = W := ⟨_, rfl⟩
  rw [hW] at tb hbl
  unfold hc z7 at hW
  have HW := Lib.hid hW
  have T0 := Lib.hid tb
  have BL := Lib.hid hbl
  clear hx hW tb hbl
  unfold hv
  go_enter Try.func11, Try.ntmps11
  go_upto_region 1 with fail
  rw [HW.out]
  clear HW
  have a0 : _ = some (Value.int .i64 base) := T0.out.q.cell 0
  have a1 : _ = some (Value.int .i64 cap) := T0.out.q.cell 1
  obtain ⟨h0, h1, h2, h3, h4, h5, h6⟩ := T0.out.h.c7
  have la := T0.out.q.lt
  have lh := T0.out.h.lt
  go_wp2_with fail
  refine (rcheckq_any A ms.length c base cap _ HN.out).mono ?_
  rw [if_pos hq]
  rintro e w1 ⟨rfl, b1⟩
  have T1 := Lib.hid (T0.out.below b1)
  have L1 := Lib.hid (below3 BL.out b1)
  clear b1 T0 a0 a1 h0 h1 h2 h3 h4 h5 h6 la lh
  have a0 : _ = some (Value.int .i64 base) := T1.out.q.cell 0
  have a1 : _ = some (Value.int .i64 cap) := T1.out.q.cell 1
  obtain ⟨h0, h1, h2, h3, h4, h5, h6⟩ := T1.out.h.c7
  have la := T1.out.q.lt
  have lh := T1.out.h.lt
  have HM := Lib.hid (may_any ⟨k, p, v, t, b, wn, s⟩)
  go_wp2_with fail
  refine (HM.out _).mono ?_
  rw [decide_eq_true hm]
  rintro e w2 ⟨rfl, b2⟩
  have T2 := Lib.hid (T1.out.below b2)
  have L2 := Lib.hid (below3 L1.out b2)
  clear b2 T1 HM a0 a1 h0 h1 h2 h3 h4 h5 h6 la lh
  have a0 : _ = some (Value.int .i64 base) := T2.out.q.cell 0
  have a1 : _ = some (Value.int .i64 cap) := T2.out.q.cell 1
  obtain ⟨h0, h1, h2, h3, h4, h5, h6⟩ := T2.out.h.c7
  have la := T2.out.q.lt
  have lh := T2.out.h.lt
  have X2 := Lib.hid (HX.out.below L2.out)
  have HN2 : Hid (ms.length ≤ 65536) := Lib.hid hbig
  have HM := Lib.hid hm
  have HO := Lib.hid ho
  have HQ := Lib.hid hq
  have FV := Lib.hid fv
  clear hm ho hq fv
  go_wp2_with (at_builtin; refine wpList_append_ints _ rfl _ _ 23 rfl 2 Try.underlying23 infoI (w.heap.size + 1 + 1 + 1) _ _ [] 0 rfl rfl (OwnI.nil_ _ _ _) _ _ _ ms rfl X2.out (by have := HN2.out; simp; omega) (by have := T2.out.r.r.lt; omega) ?_; intro A3 c3 w3 hown hgrow; rw [List.nil_append] at hown ⊢; have HO3 := Lib.hid hown; have b3 : Below w2.heap.size w2 w3 := (Below.refl _ _).grown hgrow (Nat.le_refl _) (by simp [Value.ownBlock]); have T3 := Lib.hid (T2.out.below b3); have L3 := Lib.hid (below3 L2.out b3); clear hown hgrow b3 a0 a1 h0 h1 h2 h3 h4 h5 h6 la lh)
  have I0 := Lib.hid (⟨HO3.out, T3.out.q, T3.out.h, T3.out.r.r, L3.out⟩ : SoI w3 w base cap A3 c3 ms ⟨k, p, v, t, b, wn, s⟩)
  clear HO3 T3 L3 T2 L2 X2
  go_loopg [0] 8 (fun k t wr => SoRel2 w base cap o ms.length k t wr)
  case atStart => exact ⟨A3, c3, ms, _, rfl, I0.out, HM.out, FV.out, HO.out, fun _ => by have := HM.out.1; omega, rfl⟩
  case round =>
    obtain ⟨A1, c1, msj, hj, rfl, ij, may, fvv, so, pc, ln⟩ := hrel
    clear I0 HM FV HO
    have IJ := Lib.hid ij
    obtain ⟨k0, p0, v0, t0, b0, wn0, s0⟩ := hj
    obtain ⟨q0, q1, q2, q3, q4, q5, q6⟩ := ij.hb.c7
    have e0 : _ = some (Value.int .i64 base) := ij.q.cell 0
    have e1 : _ = some (Value.int .i64 cap) := ij.q.cell 1
    have l0 := ij.q.lt
    have l1 := ij.hb.lt
    simp only at q0 q1 q2 q3 q4 q5 q6
    by_cases hs0 : s0 = 0
    · subst hs0
      have hst := rstep_any A1 msj.length c1 base cap msj ⟨k0, p0, v0, t0, b0, wn0, 0⟩ wr ij.own.ints (HdF.of_may may fvv)
      unfold hv at hst
      have hsf : stepF msj base cap ⟨k0, p0, v0, t0, b0, wn0, 0⟩ = (match accF msj base cap ⟨k0, p0, v0, t0, b0, wn0, 0⟩ with | none => (9, [], noH) | some r => (0, r.1, r.2)) := by
        unfold stepF
        rw [if_pos ⟨may, by rw [ln]; exact HQ.out⟩, if_pos rfl, Int.toNat_natCast, Int.toNat_natCast]
        rfl
      rw [hsf] at hst
      have pc0 := pc rfl
      simp only at pc0
      have hk1 : 1 ≤ gk := by have := pc_lt may.2.1; simp only at this; omega
      have PC := Lib.hid pc0
      have MAY := Lib.hid may
      have FVV := Lib.hid fvv
      have LN := Lib.hid ln
      clear ij hsf pc pc0 may fvv ln
      obtain ⟨kk, rfl⟩ : ∃ kk, gk = kk + 1 := ⟨gk - 1, by omega⟩
      cases ha : accF msj base cap ⟨k0, p0, v0, t0, b0, wn0, 0⟩ with
      | none =>
        rw [ha] at hst
        rw [solo_no kk rfl ha] at so
        have HST := Lib.hid hst
        subst so
        clear hst ha hk1
        go_wp2_with fail
        refine HST.out.mono ?_
        rintro e w2 ⟨A2, c2, rfl, o2, b2⟩
        clear HST q0 q1 q2 q3 q4 q5 q6 l1 e0 e1 l0
        simp only [List.length_nil, noH, hv]
        have kh3 := Bk.new w2 27 #[.int .i64 0, .int .i64 0, .int .i64 0, .int .i64 0, .int .i64 0, .bool false, .int .i64 0]
        have ba := (Below.refl w2.heap.size w2).alloc (Nat.le_refl _) (.cells #[.int .i64 0, .int .i64 0, .int .i64 0, .int .i64 0, .int .i64 0, .bool false, .int .i64 0] 27)
        have o3 := o2.below ba
        obtain ⟨g3, hg3⟩ : ∃ g, w2.heap.size = g := ⟨_, rfl⟩
        have hgs : w.heap.size + 1 + 1 < g3 := by have := IJ.out.r.lt; have := b2.size; omega
        have hw2 : w.heap.size ≤ w2.heap.size := by omega
        have T3 : TBox w.heap.size base cap ⟨k0, p0, v0, t0, b0, wn0, 0⟩ _ := (⟨IJ.out.q, IJ.out.hb, ⟨IJ.out.r⟩⟩ : TBox w.heap.size base cap ⟨k0, p0, v0, t0, b0, wn0, 0⟩ wr).below b2 |>.below ba
        have L3 := below3 (below3 IJ.out.bl b2) ba
        obtain ⟨W3, hW3⟩ : ∃ W3, w2.alloc (.cells #[.int .i64 0, .int .i64 0, .int .i64 0, .int .i64 0, .int .i64 0, .bool false, .int .i64 0] 27) = W3 := ⟨_, rfl⟩
        rw [hW3] at kh3 o3 T3 L3
        rw [hg3] at kh3
        have HW3 := Lib.hid hW3
        have HG3 := Lib.hid hg3
        clear hW3 ba b2 o2
        go_upto_region 6 with fail
        rw [HW3.out]
        try rw [HG3.out]
        clear HW3
        have T4 := Lib.hid T3
        have L4 := Lib.hid L3
        clear T3 L3 kh3 o3
        obtain ⟨q0, q1, q2, q3, q4, q5, q6⟩ := T4.out.r.r.c7
        obtain ⟨f0, f1, f2, f3, f4, f5, f6⟩ := T4.out.r.r.f7
        have lr := T4.out.r.r.lt
        have B2 := Lib.hid (below_set7 L4.out (by omega : w.heap.size ≤ w.heap.size + 1 + 1) (.int .i64 0) (.int .i64 0) (.int .i64 0) (.int .i64 0) (.int .i64 0) (.bool false) (.int .i64 0))
        have K2 := Lib.hid (bk_set7 T4.out.r.r (.int .i64 0) (.int .i64 0) (.int .i64 0) (.int .i64 0) (.int .i64 0) (.bool false) (.int .i64 0))
        go_wp2
        obtain ⟨r0, r1, r2, r3, r4, r5, r6⟩ := K2.out.c7
        unfold set7 at r0 r1 r2 r3 r4 r5 r6
        exact bodyPost_ret (v := .tuple #[.slice none 0 0, .agg #[.int .i64 0, .int .i64 0, .int .i64 0, .int .i64 0, .int .i64 0, .bool false, .int .i64 0], .int .i64 9]) (by simp [results, Try.results11, go_sem, r0, r1, r2, r3, r4, r5, r6]) rfl ⟨none, 0, rfl, OwnI.nil_ _ _ _, B2.out⟩
      | some z =>
        obtain ⟨ms', h'⟩ := z
        rw [ha] at hst
        have hmay := (acc_may MAY.out ha).1
        have hfv := acc_fit ha IJ.out.own.ints.2.2.1 FVV.out
        have hon := acc_on ha
        have hln := acc_len ha
        rw [solo_on kk rfl ha] at so
        have HST := Lib.hid hst
        obtain ⟨k1, p1, v1, t1, b1, wn1, s1⟩ := h'
        have HM := Lib.hid hmay
        have HFV := Lib.hid hfv
        have HON := Lib.hid hon
        have HLN := Lib.hid hln
        have SO := Lib.hid so
        clear hst so ha hk1 hmay hfv hon hln
        go_wp2_with fail
        refine HST.out.mono ?_
        rintro e w2 ⟨A2, c2, rfl, o2, b2⟩
        clear HST q0 q1 q2 q3 q4 q5 q6 l1 e0 e1 l0
        simp only [hv]
        have kh3 := Bk.new w2 27 #[.int .i64 k1, .int .i64 p1, .int .i64 v1, .int .i64 t1, .int .i64 b1, .bool wn1, .int .i64 s1]
        have ba := (Below.refl w2.heap.size w2).alloc (Nat.le_refl _) (.cells #[.int .i64 k1, .int .i64 p1, .int .i64 v1, .int .i64 t1, .int .i64 b1, .bool wn1, .int .i64 s1] 27)
        have o3 := o2.below ba
        obtain ⟨g3, hg3⟩ : ∃ g, w2.heap.size = g := ⟨_, rfl⟩
        have hgs : w.heap.size + 1 + 1 < g3 := by have := IJ.out.r.lt; have := b2.size; omega
        have hw2 : w.heap.size ≤ w2.heap.size := by omega
        have T3 : TBox w.heap.size base cap ⟨k0, p0, v0, t0, b0, wn0, 0⟩ _ := (⟨IJ.out.q, IJ.out.hb, ⟨IJ.out.r⟩⟩ : TBox w.heap.size base cap ⟨k0, p0, v0, t0, b0, wn0, 0⟩ wr).below b2 |>.below ba
        have L3 := below3 (below3 IJ.out.bl b2) ba
        obtain ⟨W3, hW3⟩ : ∃ W3, w2.alloc (.cells #[.int .i64 k1, .int .i64 p1, .int .i64 v1, .int .i64 t1, .int .i64 b1, .bool wn1, .int .i64 s1] 27) = W3 := ⟨_, rfl⟩
        rw [hW3] at kh3 o3 T3 L3
        rw [hg3] at kh3
        have HW3 := Lib.hid hW3
        have HG3 := Lib.hid hg3
        clear hW3 ba b2 o2
        go_upto_region 6 with fail
        rw [HW3.out]
        try rw [HG3.out]
        clear HW3
        have OO := Lib.hid o3
        obtain ⟨u0, u1, u2, u3, u4, u5, u6⟩ := kh3.c7
        obtain ⟨q0, q1, q2, q3, q4, q5, q6⟩ := T3.h.c7
        obtain ⟨f0, f1, f2, f3, f4, f5, f6⟩ := T3.h.f7
        have l1 := T3.h.lt
        have l3 := kh3.lt
        have LV := Lib.hid (below_set7 L3 (by omega : w.heap.size ≤ w.heap.size + 1) (.int .i64 k1) (.int .i64 p1) (.int .i64 v1) (.int .i64 t1) (.int .i64 b1) (.bool wn1) (.int .i64 s1))
        have KV := Lib.hid (bk_set7 T3.h (.int .i64 k1) (.int .i64 p1) (.int .i64 v1) (.int .i64 t1) (.int .i64 b1) (.bool wn1) (.int .i64 s1))
        have KQ := Lib.hid (Bk.far7 T3.q (by omega : w.heap.size ≠ w.heap.size + 1) (.int .i64 k1) (.int .i64 p1) (.int .i64 v1) (.int .i64 t1) (.int .i64 b1) (.bool wn1) (.int .i64 s1))
        have KR := Lib.hid (Bk.far7 T3.r.r (by omega : w.heap.size + 1 + 1 ≠ w.heap.size + 1) (.int .i64 k1) (.int .i64 p1) (.int .i64 v1) (.int .i64 t1) (.int .i64 b1) (.bool wn1) (.int .i64 s1))
        have OV := Lib.hid (own_set7 (o3.base (by have := IJ.out.r.lt; omega : w.heap.size + 1 + 1 + 1 ≤ wr.heap.size)) (by omega : w.heap.size + 1 < w.heap.size + 1 + 1 + 1) (.int .i64 k1) (.int .i64 p1) (.int .i64 v1) (.int .i64 t1) (.int .i64 b1) (.bool wn1) (.int .i64 s1))
        obtain ⟨V, hV⟩ : ∃ V, set7 W3 (w.heap.size + 1) (.int .i64 k1) (.int .i64 p1) (.int .i64 v1) (.int .i64 t1) (.int .i64 b1) (.bool wn1) (.int .i64 s1) = V := ⟨_, rfl⟩
        rw [hV] at LV KV KQ KR OV
        unfold set7 at hV
        have HV := Lib.hid hV
        clear hV T3 L3 kh3 o3
        go_wp2
        go_roundg kk
        case measure => omega
        case rel =>
          refine ⟨A2, c2, ms', ⟨k1, p1, v1, t1, b1, wn1, s1⟩, rfl, ?_, HM.out, HFV.out, SO.out, ?_, by rw [HLN.out]; exact LN.out⟩
          · rw [HV.out]
            exact ⟨OV.out, KQ.out, KV.out, KR.out, LV.out⟩
          · intro hs1
            simp only at hs1
            have h1 := PC.out
            have h3 : p0 < p1 := HON.out.resolve_left (by simpa using hs1)
            have h4 : ((kk + 1 : Nat) : Int) = (kk : Int) + 1 := by omega
            show 8 ≤ (kk : Int) + p1
            omega
    · rw [solo_end gk (h := ⟨k0, p0, v0, t0, b0, wn0, s0⟩) hs0] at so
      subst so
      have hb1 : (s0 == 0) = false := by simpa using hs0
      have HSZ := Lib.hid hs0
      clear may fvv pc ln hs0 ij
      go_wp2_with fail
      have hS0 := IJ.out.hb.drew
      simp only [hc] at hS0
      refine wp_region_held (S := fun U => Bk U (w.heap.size + 1) 27 #[.int .i64 k0, .int .i64 p0, .int .i64 v0, .int .i64 t0, .int .i64 b0, .bool wn0, .int .i64 s0]) (by kernel_rfl) ?_
      change wpAnyH _ _ _ _ _ _ _ _ (World.drew wr)
      have TD := IJ.out.r.drew
      have LD := IJ.out.bl.drew
      have OD := IJ.out.own.below (Below.refl _ _).drew
      clear q0 q1 q2 q3 q4 q5 q6 e0 e1 l0 l1
      generalize wr.drew = U0 at hS0 TD LD OD ⊢
      refine take_at (i := 0) (d := 41) (v := .slice A1 msj.length c1) rfl rfl (by kernel_rfl) (by kernel_rfl) (by kernel_rfl) (fun _ _ _ h => h) (.inl ⟨by kernel_rfl, fun U hU => by go_simp⟩) hS0 ?_
      simp only [Act.put, List.setIfInBounds_toArray, List.set_cons_zero, List.set_cons_succ]
      refine take_at (i := 1) (d := 42) (v := .agg #[.int .i64 k0, .int .i64 p0, .int .i64 v0, .int .i64 t0, .int .i64 b0, .bool wn0, .int .i64 s0]) rfl rfl (by kernel_rfl) (by kernel_rfl) (by kernel_rfl) (fun _ _ _ h => h) (.inl ⟨by kernel_rfl, fun U hU => by obtain ⟨z0, z1, z2, z3, z4, z5, z6⟩ := hU.c7; go_simp⟩) hS0 ?_
      simp only [Act.put, List.setIfInBounds_toArray, List.set_cons_zero, List.set_cons_succ]
      refine take_at (i := 2) (d := 6) (v := .slice A1 msj.length c1) rfl rfl (by kernel_rfl) (by kernel_rfl) (by kernel_rfl) (fun _ _ _ h => h) (.inl ⟨by kernel_rfl, fun U hU => by go_simp⟩) hS0 ?_
      simp only [Act.put, List.setIfInBounds_toArray, List.set_cons_zero, List.set_cons_succ]
      obtain ⟨q0, q1, q2, q3, q4, q5, q6⟩ := TD.c7
      obtain ⟨f0, f1, f2, f3, f4, f5, f6⟩ := TD.f7
      have lr := TD.lt
      have B2 := Lib.hid (below_set7 LD (by omega : w.heap.size ≤ w.heap.size + 1 + 1) (.int .i64 k0) (.int .i64 p0) (.int .i64 v0) (.int .i64 t0) (.int .i64 b0) (.bool wn0) (.int .i64 s0))
      have K2 := Lib.hid (bk_set7 TD (.int .i64 k0) (.int .i64 p0) (.int .i64 v0) (.int .i64 t0) (.int .i64 b0) (.bool wn0) (.int .i64 s0))
      have O2 := Lib.hid (own_set7 OD (by omega : w.heap.size + 1 + 1 < w.heap.size + 1 + 1 + 1) (.int .i64 k0) (.int .i64 p0) (.int .i64 v0) (.int .i64 t0) (.int .i64 b0) (.bool wn0) (.int .i64 s0))
      have hS9 := Lib.hid (Bk.far7 hS0 (by omega : w.heap.size + 1 ≠ w.heap.size + 1 + 1) (.int .i64 k0) (.int .i64 p0) (.int .i64 v0) (.int .i64 t0) (.int .i64 b0) (.bool wn0) (.int .i64 s0))
      unfold set7 at hS9
      refine wpAnyH_all (rs := [3]) (by kernel_rfl) (by simp) ?_
      intro i hi
      simp only [List.mem_cons, List.not_mem_nil, or_false] at hi
      subst hi
      unfold wpOp
      go_simp
      left
      refine ⟨hS9.out, ?_⟩
      clear q0 q1 q2 q3 q4 q5 q6 f0 f1 f2 f3 f4 f5 f6 lr
      refine take_at (i := 4) (d := 8) (v := .int .i64 0) rfl rfl (by kernel_rfl) (by kernel_rfl) (by kernel_rfl) (fun _ _ _ h => h) (.inl ⟨by kernel_rfl, fun U hU => by go_simp⟩) hS9.out ?_
      simp only [Act.put, List.setIfInBounds_toArray, List.set_cons_zero, List.set_cons_succ]
      refine wpAnyH_done (by kernel_rfl) ?_ _
      clear hS0
      go_wp2
      obtain ⟨r0, r1, r2, r3, r4, r5, r6⟩ := K2.out.c7
      unfold set7 at r0 r1 r2 r3 r4 r5 r6
      exact bodyPost_ret (v := .tuple #[.slice A1 msj.length c1, .agg #[.int .i64 k0, .int .i64 p0, .int .i64 v0, .int .i64 t0, .int .i64 b0, .bool wn0, .int .i64 s0], .int .i64 0]) (by simp [results, Try.results11, go_sem, r0, r1, r2, r3, r4, r5, r6]) rfl ⟨A1, c1, rfl, O2.out.base (by omega), B2.out⟩

theorem rsolo_any (A : Option Addr) (n c : Nat) (base cap : Int) (ms : List Int) (h : Hd) (w : World) (hx : Ints w A n ms) (fv : Fit h.v) :
    Calls Try.prog 11 #[.slice A n c, .agg #[.int .i64 base, .int .i64 cap], hv h] w (StepOf (soloA ms base cap h) w) := by
  obtain rfl := hx.1
  obtain ⟨k, p, v, t, b, wn, s⟩ := h
  unfold soloA
  by_cases hq : MayQ ms.length base cap
  · by_cases hm : MayH ⟨k, p, v, t, b, wn, s⟩
    · rw [if_pos ⟨hm, hq⟩]
      obtain ⟨bn, rfl⟩ : ∃ bn : Nat, base = bn := ⟨base.toNat, by have := hq.2.2.2.1; omega⟩
      obtain ⟨cn, rfl⟩ : ∃ cn : Nat, cap = cn := ⟨cap.toNat, by have := hq.2.1; omega⟩
      simp only [Int.toNat_natCast]
      exact rsolo_ok A c bn cn ms k p v t b wn s w hx hq hm fv _ rfl
    · rw [if_neg (fun q => hm q.1)]
      exact rsolo_h A _ c base cap ms k p v t b wn s w hx hq hm
  · rw [if_neg (fun q => hq q.2)]
    exact rsolo_q A _ c base cap ms k p v t b wn s w hx hq

end Go.Proofs.Ytfmiamjbhlglbaa

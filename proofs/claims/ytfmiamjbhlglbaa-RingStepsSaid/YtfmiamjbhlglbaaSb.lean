/-
  The contract of the program's Step (layer 7): what the document says of an access.
-/
import Derived.Test.YtfmiamjbhlglbaaSa
import Derived.StillTailTactics
import Derived.Deep.CutBlock
namespace Go.Proofs.Ytfmiamjbhlglbaa
open Go.RowKit Go.Maps

def z7 : Array Value := #[.int .i64 0, .int .i64 0, .int .i64 0, .int .i64 0, .int .i64 0, .bool false, .int .i64 0]
/-- The boxes of a step: the deque, the hand, the result. -/
structure Box3 (W : World) (s : Nat) (base cap : Int) (h : Hd) : Prop where
  q : Bk W s 25 #[.int .i64 base, .int .i64 cap]
  h : Bk W (s + 1) 27 (hc h)
  r : Bk W (s + 1 + 1) 27 z7
theorem box3 (w : World) (base cap : Int) (h : Hd) : Box3 (((w.alloc (.cells #[.int .i64 base, .int .i64 cap] 25)).alloc (.cells (hc h) 27)).alloc (.cells z7 27)) w.heap.size base cap h ∧
    Below w.heap.size w (((w.alloc (.cells #[.int .i64 base, .int .i64 cap] 25)).alloc (.cells (hc h) 27)).alloc (.cells z7 27)) := by
  have h2 := Bk.new (w.alloc (.cells #[.int .i64 base, .int .i64 cap] 25)) 27 (hc h)
  have h3 := Bk.new ((w.alloc (.cells #[.int .i64 base, .int .i64 cap] 25)).alloc (.cells (hc h) 27)) 27 z7
  rw [size_alloc] at h2
  rw [size_alloc, size_alloc] at h3
  exact ⟨⟨((Bk.new w _ _).alloc _).alloc _, h2.alloc _, h3⟩, (two_boxes w _ _ _ _).alloc (by simp; omega) _⟩
theorem Box3.below {W w1 : World} {s : Nat} {base cap : Int} {h : Hd} (b : Box3 W s base cap h) (hb : Below W.heap.size W w1) : Box3 w1 s base cap h := ⟨b.q.below hb b.q.lt, b.h.below hb b.h.lt, b.r.below hb b.r.lt⟩
theorem Box3.grown {W w1 : World} {s g : Nat} {base cap : Int} {h : Hd} (b : Box3 W s base cap h) (hg : W.grownBy w1 (some g)) (hs : s + 1 + 1 < g) : Box3 w1 s base cap h :=
  ⟨b.q.grown hg (by simp; omega), b.h.grown hg (by simp; omega), b.r.grown hg (by simp; omega)⟩

theorem box2 (w : World) (base cap : Int) (h : Hd) : Bk ((w.alloc (.cells #[.int .i64 base, .int .i64 cap] 25)).alloc (.cells (hc h) 27)) w.heap.size 25 #[.int .i64 base, .int .i64 cap] ∧
    Bk ((w.alloc (.cells #[.int .i64 base, .int .i64 cap] 25)).alloc (.cells (hc h) 27)) (w.heap.size + 1) 27 (hc h) := by
  have h2 := Bk.new (w.alloc (.cells #[.int .i64 base, .int .i64 cap] 25)) 27 (hc h)
  rw [size_alloc] at h2
  exact ⟨(Bk.new w _ _).alloc _, h2⟩
set_option maxHeartbeats 1000000 in
theorem nextin_q (A : Option Addr) (n c : Nat) (base cap : Int) (k p v t b : Int) (wn : Bool) (s : Int) (w : World) (hn : n ≤ 9223372036854775807) (fb : Fit base) (fc : Fit cap) (fh : HdF ⟨k, p, v, t, b, wn, s⟩) (hq : ¬ MayQ n base cap) :
    Calls Try.prog 21 #[.slice A n c, .agg #[.int .i64 base, .int .i64 cap], hv ⟨k, p, v, t, b, wn, s⟩] w (NextOf .nilFunc 1 w) := by
  obtain ⟨kq, kh⟩ := box2 w base cap ⟨k, p, v, t, b, wn, s⟩
  have hbl := two_boxes w #[.int .i64 base, .int .i64 cap] (hc ⟨k, p, v, t, b, wn, s⟩) 25 27
  obtain ⟨W, hW⟩ : ∃ W, ((w.alloc (.cells #[.int .i64 base, .int .i64 cap] 25)).alloc (.cells (hc ⟨k, p, v, t, b, wn, s⟩) 27)) = W := ⟨_, rfl⟩
  rw [hW] at hbl kq kh
  unfold hc at hW
  have HW := Lib.hid hW
  have BL := Lib.hid hbl
  have FH := Lib.hid fh
  have FB := Lib.hid fb
  have FC := Lib.hid fc
  have KH := Lib.hid kh
  have c0 : _ = some (Value.int .i64 base) := kq.cell 0
  have c1 : _ = some (Value.int .i64 cap) := kq.cell 1
  have lq := kq.lt
  clear hW hbl fh fb fc kq kh
  unfold hv
  go_enter Try.func21, Try.ntmps21
  go_upto_region 1 with fail
  rw [HW.out]
  clear HW
  go_wp2_with fail
  refine (checkq_any A n c base cap _ hn FB.out FC.out).mono ?_
  rw [if_neg hq]
  rintro e w1 ⟨rfl, b1⟩
  have L1 := Lib.hid (below3 BL.out b1)
  clear b1 c0 c1 lq
  go_wp2
  exact bodyPost_ret (v := .tuple #[.nilFunc, .int .i64 1]) (by simp [results, Try.results21, go_sem]) rfl ⟨rfl, L1.out⟩
set_option maxHeartbeats 1000000 in
theorem nextin_h (A : Option Addr) (n c : Nat) (base cap : Int) (k p v t b : Int) (wn : Bool) (s : Int) (w : World) (hn : n ≤ 9223372036854775807) (fb : Fit base) (fc : Fit cap) (fh : HdF ⟨k, p, v, t, b, wn, s⟩) (hq : MayQ n base cap) (hm : ¬ MayH ⟨k, p, v, t, b, wn, s⟩) :
    Calls Try.prog 21 #[.slice A n c, .agg #[.int .i64 base, .int .i64 cap], hv ⟨k, p, v, t, b, wn, s⟩] w (NextOf .nilFunc 1 w) := by
  obtain ⟨kq, kh⟩ := box2 w base cap ⟨k, p, v, t, b, wn, s⟩
  have hbl := two_boxes w #[.int .i64 base, .int .i64 cap] (hc ⟨k, p, v, t, b, wn, s⟩) 25 27
  obtain ⟨W, hW⟩ : ∃ W, ((w.alloc (.cells #[.int .i64 base, .int .i64 cap] 25)).alloc (.cells (hc ⟨k, p, v, t, b, wn, s⟩) 27)) = W := ⟨_, rfl⟩
  rw [hW] at hbl kq kh
  unfold hc at hW
  have HW := Lib.hid hW
  have BL := Lib.hid hbl
  have FH := Lib.hid fh
  have FB := Lib.hid fb
  have FC := Lib.hid fc
  have KH := Lib.hid kh
  have c0 : _ = some (Value.int .i64 base) := kq.cell 0
  have c1 : _ = some (Value.int .i64 cap) := kq.cell 1
  have lq := kq.lt
  clear hW hbl fh fb fc kq kh
  unfold hv
  go_enter Try.func21, Try.ntmps21
  go_upto_region 1 with fail
  rw [HW.out]
  clear HW
  go_wp2_with fail
  refine (checkq_any A n c base cap _ hn FB.out FC.out).mono ?_
  rw [if_pos hq]
  rintro e w1 ⟨rfl, b1⟩
  have kh := KH.out.below b1 KH.out.lt
  have L1 := Lib.hid (below3 BL.out b1)
  clear b1 c0 c1 lq KH
  unfold hc at kh
  obtain ⟨q0, q1, q2, q3, q4, q5, q6⟩ := kh.c7
  have lh := kh.lt
  clear kh
  go_wp2_with fail
  refine (next_any ⟨k, p, v, t, b, wn, s⟩ _ FH.out.k FH.out.p).mono ?_
  rw [if_neg hm]
  rintro e w2 ⟨rfl, b2⟩
  have L2 := Lib.hid (below3 L1.out b2)
  clear b2 q0 q1 q2 q3 q4 q5 q6 lh
  go_wp2
  exact bodyPost_ret (v := .tuple #[.nilFunc, .int .i64 1]) (by simp [results, Try.results21, go_sem]) rfl ⟨rfl, L2.out⟩
set_option maxHeartbeats 1000000 in
theorem nextin_ok (A : Option Addr) (n c : Nat) (base cap : Int) (k p v t b : Int) (wn : Bool) (s : Int) (w : World) (hn : n ≤ 9223372036854775807) (fb : Fit base) (fc : Fit cap) (fh : HdF ⟨k, p, v, t, b, wn, s⟩) (hq : MayQ n base cap) (hm : MayH ⟨k, p, v, t, b, wn, s⟩) :
    Calls Try.prog 21 #[.slice A n c, .agg #[.int .i64 base, .int .i64 cap], hv ⟨k, p, v, t, b, wn, s⟩] w (NextOf (lkV (tblF k p)) 0 w) := by
  obtain ⟨kq, kh⟩ := box2 w base cap ⟨k, p, v, t, b, wn, s⟩
  have hbl := two_boxes w #[.int .i64 base, .int .i64 cap] (hc ⟨k, p, v, t, b, wn, s⟩) 25 27
  obtain ⟨W, hW⟩ : ∃ W, ((w.alloc (.cells #[.int .i64 base, .int .i64 cap] 25)).alloc (.cells (hc ⟨k, p, v, t, b, wn, s⟩) 27)) = W := ⟨_, rfl⟩
  rw [hW] at hbl kq kh
  unfold hc at hW
  have HW := Lib.hid hW
  have BL := Lib.hid hbl
  have FH := Lib.hid fh
  have FB := Lib.hid fb
  have FC := Lib.hid fc
  have KH := Lib.hid kh
  have c0 : _ = some (Value.int .i64 base) := kq.cell 0
  have c1 : _ = some (Value.int .i64 cap) := kq.cell 1
  have lq := kq.lt
  clear hW hbl fh fb fc kq kh
  unfold hv
  go_enter Try.func21, Try.ntmps21
  go_upto_region 1 with fail
  rw [HW.out]
  clear HW
  go_wp2_with fail
  refine (checkq_any A n c base cap _ hn FB.out FC.out).mono ?_
  rw [if_pos hq]
  rintro e w1 ⟨rfl, b1⟩
  have kh := KH.out.below b1 KH.out.lt
  have L1 := Lib.hid (below3 BL.out b1)
  clear b1 c0 c1 lq KH
  unfold hc at kh
  obtain ⟨q0, q1, q2, q3, q4, q5, q6⟩ := kh.c7
  have lh := kh.lt
  clear kh
  go_wp2_with fail
  refine (next_any ⟨k, p, v, t, b, wn, s⟩ _ FH.out.k FH.out.p).mono ?_
  rw [if_pos hm]
  rintro e w2 ⟨rfl, b2⟩
  have L2 := Lib.hid (below3 L1.out b2)
  clear b2 q0 q1 q2 q3 q4 q5 q6 lh
  go_wp2
  exact bodyPost_ret (v := .tuple #[lkV (tblF k p), .int .i64 0]) (by simp [results, Try.results21, go_sem]) rfl ⟨rfl, L2.out⟩
theorem nextin_no (A : Option Addr) (n c : Nat) (base cap : Int) (k p v t b : Int) (wn : Bool) (s : Int) (w : World) (hn : n ≤ 9223372036854775807) (fb : Fit base) (fc : Fit cap) (fh : HdF ⟨k, p, v, t, b, wn, s⟩) (h : ¬ (MayH ⟨k, p, v, t, b, wn, s⟩ ∧ MayQ n base cap)) :
    Calls Try.prog 21 #[.slice A n c, .agg #[.int .i64 base, .int .i64 cap], hv ⟨k, p, v, t, b, wn, s⟩] w (NextOf .nilFunc 1 w) := by
  by_cases hq : MayQ n base cap
  · exact nextin_h A n c base cap k p v t b wn s w hn fb fc fh hq (fun hm => h ⟨hm, hq⟩)
  · exact nextin_q A n c base cap k p v t b wn s w hn fb fc fh hq

set_option maxHeartbeats 1000000 in
theorem step_err (A : Option Addr) (n c : Nat) (base cap : Int) (ms : List Int) (k p v t b : Int) (wn : Bool) (s : Int) (w : World) (hx : Ints w A n ms) (fb : Fit base) (fc : Fit cap) (fh : HdF ⟨k, p, v, t, b, wn, s⟩) (hno : ¬ (MayH ⟨k, p, v, t, b, wn, s⟩ ∧ MayQ n base cap)) :
    Calls Try.prog 8 #[.slice A n c, .agg #[.int .i64 base, .int .i64 cap], hv ⟨k, p, v, t, b, wn, s⟩] w (StepOf (1, [], noH) w) := by
  have HN : Hid (n ≤ 9223372036854775807) := Lib.hid (by have := hx.2.1; omega)
  have FB := Lib.hid fb
  have FC := Lib.hid fc
  have HX := Lib.hid hx
  clear fb fc hx
  have hbx := box3 w base cap ⟨k, p, v, t, b, wn, s⟩
  obtain ⟨W, hW⟩ : ∃ W, (((w.alloc (.cells #[.int .i64 base, .int .i64 cap] 25)).alloc (.cells (hc ⟨k, p, v, t, b, wn, s⟩) 27)).alloc (.cells z7 27)) = W := ⟨_, rfl⟩
  rw [hW] at hbx
  obtain ⟨hbx, hbl⟩ := hbx
  unfold hc z7 at hW
  have HW := Lib.hid hW
  have BX := Lib.hid hbx
  have BL := Lib.hid hbl
  have FH := Lib.hid fh
  obtain ⟨q0, q1, q2, q3, q4, q5, q6⟩ := hbx.h.c7
  have hl1 := hbx.h.lt
  clear hW hbx hbl fh
  unfold hv
  go_enter Try.func8, Try.ntmps8
  go_upto_region 1 with fail
  rw [HW.out]
  clear HW
  have c0 : _ = some (Value.int .i64 base) := BX.out.q.cell 0
  have c1 : _ = some (Value.int .i64 cap) := BX.out.q.cell 1
  have lq := BX.out.q.lt
  go_wp2_with fail
  refine (nextin_no A n c base cap k p v t b wn s _ HN.out FB.out FC.out FH.out hno).mono ?_
  rintro e w2 ⟨rfl, b2⟩
  have X2 := BX.out.below b2
  have L2 := Lib.hid (below3 BL.out b2)
  clear b2 c0 c1 lq q0 q1 q2 q3 q4 q5 q6 hl1
  have kr : Bk w2 (w.heap.size + 1 + 1) 27 #[.int .i64 0, .int .i64 0, .int .i64 0, .int .i64 0, .int .i64 0, .bool false, .int .i64 0] := X2.r
  obtain ⟨p0, p1, p2, p3, p4, p5, p6⟩ := kr.c7
  obtain ⟨f0, f1, f2, f3, f4, f5, f6⟩ := kr.f7
  have lr := kr.lt
  have B2 := Lib.hid (below_set7 L2.out (by omega : w.heap.size ≤ w.heap.size + 1 + 1) (.int .i64 0) (.int .i64 0) (.int .i64 0) (.int .i64 0) (.int .i64 0) (.bool false) (.int .i64 0))
  have K2 := Lib.hid (bk_set7 kr (.int .i64 0) (.int .i64 0) (.int .i64 0) (.int .i64 0) (.int .i64 0) (.bool false) (.int .i64 0))
  clear kr X2
  go_wp2
  obtain ⟨r0, r1, r2, r3, r4, r5, r6⟩ := K2.out.c7
  unfold set7 at r0 r1 r2 r3 r4 r5 r6
  exact bodyPost_ret (v := .tuple #[.slice none 0 0, .agg #[.int .i64 0, .int .i64 0, .int .i64 0, .int .i64 0, .int .i64 0, .bool false, .int .i64 0], .int .i64 1]) (by simp [results, Try.results8, go_sem, r0, r1, r2, r3, r4, r5, r6]) rfl ⟨none, 0, rfl, OwnI.nil_ _ _ _, B2.out⟩

set_option maxHeartbeats 1000000 in
theorem step_state (A : Option Addr) (n c : Nat) (base cap : Int) (ms : List Int) (k p v t b : Int) (wn : Bool) (s : Int) (w : World) (hx : Ints w A n ms) (fb : Fit base) (fc : Fit cap) (fh : HdF ⟨k, p, v, t, b, wn, s⟩) (hm : MayH ⟨k, p, v, t, b, wn, s⟩) (hq : MayQ n base cap) (hs : ¬ s = 0) :
    Calls Try.prog 8 #[.slice A n c, .agg #[.int .i64 base, .int .i64 cap], hv ⟨k, p, v, t, b, wn, s⟩] w (StepOf (9, [], noH) w) := by
  have HN : Hid (n ≤ 9223372036854775807) := Lib.hid (by have := hx.2.1; omega)
  have FB := Lib.hid fb
  have FC := Lib.hid fc
  have HX := Lib.hid hx
  clear fb fc hx
  have hs2 : (s == 0) = false := by simpa using hs
  have hs3 : (s != 0) = true := by simpa using hs
  clear hs
  have hbx := box3 w base cap ⟨k, p, v, t, b, wn, s⟩
  obtain ⟨W, hW⟩ : ∃ W, (((w.alloc (.cells #[.int .i64 base, .int .i64 cap] 25)).alloc (.cells (hc ⟨k, p, v, t, b, wn, s⟩) 27)).alloc (.cells z7 27)) = W := ⟨_, rfl⟩
  rw [hW] at hbx
  obtain ⟨hbx, hbl⟩ := hbx
  unfold hc z7 at hW
  have HW := Lib.hid hW
  have BX := Lib.hid hbx
  have BL := Lib.hid hbl
  have FH := Lib.hid fh
  obtain ⟨q0, q1, q2, q3, q4, q5, q6⟩ := hbx.h.c7
  have hl1 := hbx.h.lt
  clear hW hbx hbl fh
  unfold hv
  go_enter Try.func8, Try.ntmps8
  go_upto_region 1 with fail
  rw [HW.out]
  clear HW
  have c0 : _ = some (Value.int .i64 base) := BX.out.q.cell 0
  have c1 : _ = some (Value.int .i64 cap) := BX.out.q.cell 1
  have lq := BX.out.q.lt
  go_wp2_with fail
  refine (nextin_ok A n c base cap k p v t b wn s _ HN.out FB.out FC.out FH.out hq hm).mono ?_
  rintro e w2 ⟨rfl, b2⟩
  have X2 := BX.out.below b2
  have L2 := Lib.hid (below3 BL.out b2)
  clear b2 c0 c1 lq q0 q1 q2 q3 q4 q5 q6 hl1
  have c6 : _ = some (Value.int .i64 s) := X2.h.cell 6
  have kr : Bk w2 (w.heap.size + 1 + 1) 27 #[.int .i64 0, .int .i64 0, .int .i64 0, .int .i64 0, .int .i64 0, .bool false, .int .i64 0] := X2.r
  obtain ⟨p0, p1, p2, p3, p4, p5, p6⟩ := kr.c7
  obtain ⟨f0, f1, f2, f3, f4, f5, f6⟩ := kr.f7
  have lr := kr.lt
  have B2 := Lib.hid (below_set7 L2.out (by omega : w.heap.size ≤ w.heap.size + 1 + 1) (.int .i64 0) (.int .i64 0) (.int .i64 0) (.int .i64 0) (.int .i64 0) (.bool false) (.int .i64 0))
  have K2 := Lib.hid (bk_set7 kr (.int .i64 0) (.int .i64 0) (.int .i64 0) (.int .i64 0) (.int .i64 0) (.bool false) (.int .i64 0))
  clear kr X2
  go_wp2
  obtain ⟨r0, r1, r2, r3, r4, r5, r6⟩ := K2.out.c7
  unfold set7 at r0 r1 r2 r3 r4 r5 r6
  exact bodyPost_ret (v := .tuple #[.slice none 0 0, .agg #[.int .i64 0, .int .i64 0, .int .i64 0, .int .i64 0, .int .i64 0, .bool false, .int .i64 0], .int .i64 9]) (by simp [results, Try.results8, go_sem, r0, r1, r2, r3, r4, r5, r6]) rfl ⟨none, 0, rfl, OwnI.nil_ _ _ _, B2.out⟩

theorem own_set7 {E : TypeId} {W : World} {B : Nat} {A : Option Addr} {c : Nat} {zs : List Int} (h : OwnI E W B A c zs) {g : Nat} (hg : g < B) (v0 v1 v2 v3 v4 v5 v6 : Value) : OwnI E (set7 W g v0 v1 v2 v3 v4 v5 v6) B A c zs := by
  have hne : ∀ a, A = some a → a.block ≠ g := by
    rintro a rfl e
    have := h.block (n := 0) (d := 0) a.block rfl
    omega
  exact ((((((h.aside hne 0 v0).aside hne 1 v1).aside hne 2 v2).aside hne 3 v3).aside hne 4 v4).aside hne 5 v5).aside hne 6 v6
theorem pc_lt {k p : Int} (h : p < pcsF k) : p < 7 := by
  unfold pcsF at h
  split at h
  · omega
  · split at h <;> omega
set_option maxHeartbeats 2000000 in
theorem step_no (A : Option Addr) (c : Nat) (bn cn : Nat) (ms : List Int) (k p v t b : Int) (wn : Bool) (w : World) (hx : Ints w A ms.length ms) (fh : HdF ⟨k, p, v, t, b, wn, 0⟩) (hm : MayH ⟨k, p, v, t, b, wn, 0⟩) (hq : MayQ ms.length bn cn) (ha : accF ms bn cn ⟨k, p, v, t, b, wn, 0⟩ = none) :
    Calls Try.prog 8 #[.slice A ms.length c, .agg #[.int .i64 bn, .int .i64 cn], hv ⟨k, p, v, t, b, wn, 0⟩] w (StepOf (9, [], noH) w) := by
  have D : Dq bn cn ms := ⟨by have := hq.2.2.2.2.2; omega, hq.1, by have := hq.2.1; omega, by have := hq.2.2.1; omega⟩
  have FB := Lib.hid (⟨by omega, by have := D.len; have := D.big; omega⟩ : Fit (bn : Int))
  have FC := Lib.hid (⟨by omega, by have := D.c2; omega⟩ : Fit (cn : Int))
  have HN : Hid (ms.length ≤ 9223372036854775807) := Lib.hid (by have := D.big; omega)
  have HX := Lib.hid hx
  have HD := Lib.hid D
  have hp0 := hm.1
  have hp7 := pc_lt hm.2.1
  simp only at hp0 hp7
  obtain ⟨i, hi⟩ := Option.isSome_iff_exists.1 (tblF_some ⟨hm.1, hm.2.1⟩)
  simp only at hi
  clear hx D
  have hbx := box3 w (bn : Int) (cn : Int) ⟨k, p, v, t, b, wn, 0⟩
  obtain ⟨W, hW⟩ : ∃ W, (((w.alloc (.cells #[.int .i64 bn, .int .i64 cn] 25)).alloc (.cells (hc ⟨k, p, v, t, b, wn, 0⟩) 27)).alloc (.cells z7 27)) = W := ⟨_, rfl⟩
  rw [hW] at hbx
  obtain ⟨hbx, hbl⟩ := hbx
  unfold hc z7 at hW
  have HW := Lib.hid hW
  have BX := Lib.hid hbx
  have BL := Lib.hid hbl
  have FH := Lib.hid fh
  obtain ⟨q0, q1, q2, q3, q4, q5, q6⟩ := hbx.h.c7
  have hl1 := hbx.h.lt
  clear hW hbx hbl fh
  unfold hv
  go_enter Try.func8, Try.ntmps8
  go_upto_region 1 with fail
  rw [HW.out]
  clear HW
  have c0 : _ = some (Value.int .i64 bn) := BX.out.q.cell 0
  have c1 : _ = some (Value.int .i64 cn) := BX.out.q.cell 1
  have lq := BX.out.q.lt
  go_wp2_with fail
  refine (nextin_ok A ms.length c bn cn k p v t b wn 0 _ HN.out FB.out FC.out FH.out hq hm).mono ?_
  rw [show lkV (tblF k p) = .func (.func i) #[] #[] by rw [hi]; rfl]
  rintro e w2 ⟨rfl, b2⟩
  have X2 := BX.out.below b2
  have L2 := Lib.hid (below3 BL.out b2)
  clear b2 c0 c1 lq q0 q1 q2 q3 q4 q5 q6 hl1
  obtain ⟨q0, q1, q2, q3, q4, q5, q6⟩ := X2.h.c7
  have c0 : _ = some (Value.int .i64 bn) := X2.q.cell 0
  have c1 : _ = some (Value.int .i64 cn) := X2.q.cell 1
  have lh := X2.h.lt
  have lq := X2.q.lt
  have lr := X2.r.lt
  obtain ⟨g, hg⟩ : ∃ g, w2.heap.size = g := ⟨_, rfl⟩
  have B3 := (Below.refl w2.heap.size w2).alloc (Nat.le_refl _) (.cells (rc ⟨k, p, v, t, b, wn, 0⟩ bn cn (.slice A ms.length c)) 56)
  have K3 := Bk.new w2 56 (rc ⟨k, p, v, t, b, wn, 0⟩ bn cn (.slice A ms.length c))
  rw [hg] at K3
  have hsz : w.heap.size + 1 + 1 < g := by omega
  have hsw : w.heap.size ≤ w2.heap.size := L2.out.size
  have R3 : Rch _ g ⟨k, p, v, t, b, wn, 0⟩ bn cn ms A c := ⟨K3, HX.out.below (below3 L2.out B3), fun a ha => by
    rcases Nat.eq_zero_or_pos ms.length with h0 | h0
    · have := HD.out.len; omega
    · obtain ⟨bb, oo, e, hbb, -⟩ := HX.out.2.2.2 h0
      rw [e] at ha
      injection ha with ha
      subst ha
      show bb ≠ g
      omega⟩
  obtain ⟨j, hj, hent, hacc⟩ := access_any _ g ⟨k, p, v, t, b, wn, 0⟩ bn cn ms A c R3 HD.out FH.out.v hm rfl
  obtain rfl : i = j := Option.some.inj (hi.symm.trans hj)
  rw [ha] at hacc
  have HA := Lib.hid hacc
  have X3 := X2.below B3
  have L3 := Lib.hid (below3 L2.out B3)
  have S3 := Lib.hid B3.size
  clear K3 R3 hacc hj hi B3 X2 ha
  unfold rc at HA X3 L3 S3
  go_wp2_with fail
  refine HA.out.mono ?_
  rintro e w4 ⟨rfl, hg4⟩
  have X4 := X3.grown hg4 hsz
  have L4 := Lib.hid (L3.out.grown hg4 (Nat.le_trans hsw S3.out) (fun k hk => by cases hk; omega))
  clear hg4 X3 q0 q1 q2 q3 q4 q5 q6 c0 c1 lh lq lr
  have kr : Bk w4 (w.heap.size + 1 + 1) 27 #[.int .i64 0, .int .i64 0, .int .i64 0, .int .i64 0, .int .i64 0, .bool false, .int .i64 0] := X4.r
  obtain ⟨p0, p1, p2, p3, p4, p5, p6⟩ := kr.c7
  obtain ⟨f0, f1, f2, f3, f4, f5, f6⟩ := kr.f7
  have lr := kr.lt
  have B2 := Lib.hid (below_set7 L4.out (by omega : w.heap.size ≤ w.heap.size + 1 + 1) (.int .i64 0) (.int .i64 0) (.int .i64 0) (.int .i64 0) (.int .i64 0) (.bool false) (.int .i64 0))
  have K2 := Lib.hid (bk_set7 kr (.int .i64 0) (.int .i64 0) (.int .i64 0) (.int .i64 0) (.int .i64 0) (.bool false) (.int .i64 0))
  clear kr X4
  go_wp2
  obtain ⟨r0, r1, r2, r3, r4, r5, r6⟩ := K2.out.c7
  unfold set7 at r0 r1 r2 r3 r4 r5 r6
  exact bodyPost_ret (v := .tuple #[.slice none 0 0, .agg #[.int .i64 0, .int .i64 0, .int .i64 0, .int .i64 0, .int .i64 0, .bool false, .int .i64 0], .int .i64 9]) (by simp [results, Try.results8, go_sem, r0, r1, r2, r3, r4, r5, r6]) rfl ⟨none, 0, rfl, OwnI.nil_ _ _ _, B2.out⟩

set_option maxHeartbeats 2000000 in
theorem step_ok (A : Option Addr) (c : Nat) (bn cn : Nat) (ms : List Int) (k p v t b : Int) (wn : Bool) (w : World) (hx : Ints w A ms.length ms) (fh : HdF ⟨k, p, v, t, b, wn, 0⟩) (hm : MayH ⟨k, p, v, t, b, wn, 0⟩) (hq : MayQ ms.length bn cn) (ms2 : List Int) (h2 : Hd) (ha : accF ms bn cn ⟨k, p, v, t, b, wn, 0⟩ = some (ms2, h2)) :
    Calls Try.prog 8 #[.slice A ms.length c, .agg #[.int .i64 bn, .int .i64 cn], hv ⟨k, p, v, t, b, wn, 0⟩] w (StepOf (0, ms2, h2) w) := by
  have D : Dq bn cn ms := ⟨by have := hq.2.2.2.2.2; omega, hq.1, by have := hq.2.1; omega, by have := hq.2.2.1; omega⟩
  have FB := Lib.hid (⟨by omega, by have := D.len; have := D.big; omega⟩ : Fit (bn : Int))
  have FC := Lib.hid (⟨by omega, by have := D.c2; omega⟩ : Fit (cn : Int))
  have HN : Hid (ms.length ≤ 9223372036854775807) := Lib.hid (by have := D.big; omega)
  have HX := Lib.hid hx
  have HD := Lib.hid D
  have hp0 := hm.1
  have hp7 := pc_lt hm.2.1
  simp only at hp0 hp7
  obtain ⟨i, hi⟩ := Option.isSome_iff_exists.1 (tblF_some ⟨hm.1, hm.2.1⟩)
  simp only at hi
  clear hx D
  have hbx := box3 w (bn : Int) (cn : Int) ⟨k, p, v, t, b, wn, 0⟩
  obtain ⟨W, hW⟩ : ∃ W, (((w.alloc (.cells #[.int .i64 bn, .int .i64 cn] 25)).alloc (.cells (hc ⟨k, p, v, t, b, wn, 0⟩) 27)).alloc (.cells z7 27)) = W := ⟨_, rfl⟩
  rw [hW] at hbx
  obtain ⟨hbx, hbl⟩ := hbx
  unfold hc z7 at hW
  have HW := Lib.hid hW
  have BX := Lib.hid hbx
  have BL := Lib.hid hbl
  have FH := Lib.hid fh
  obtain ⟨q0, q1, q2, q3, q4, q5, q6⟩ := hbx.h.c7
  have hl1 := hbx.h.lt
  clear hW hbx hbl fh
  unfold hv
  go_enter Try.func8, Try.ntmps8
  go_upto_region 1 with fail
  rw [HW.out]
  clear HW
  have c0 : _ = some (Value.int .i64 bn) := BX.out.q.cell 0
  have c1 : _ = some (Value.int .i64 cn) := BX.out.q.cell 1
  have lq := BX.out.q.lt
  go_wp2_with fail
  refine (nextin_ok A ms.length c bn cn k p v t b wn 0 _ HN.out FB.out FC.out FH.out hq hm).mono ?_
  rw [show lkV (tblF k p) = .func (.func i) #[] #[] by rw [hi]; rfl]
  rintro e w2 ⟨rfl, b2⟩
  have X2 := BX.out.below b2
  have L2 := Lib.hid (below3 BL.out b2)
  clear b2 c0 c1 lq q0 q1 q2 q3 q4 q5 q6 hl1
  obtain ⟨q0, q1, q2, q3, q4, q5, q6⟩ := X2.h.c7
  have c0 : _ = some (Value.int .i64 bn) := X2.q.cell 0
  have c1 : _ = some (Value.int .i64 cn) := X2.q.cell 1
  have lh := X2.h.lt
  have lq := X2.q.lt
  have lr := X2.r.lt
  obtain ⟨g, hg⟩ : ∃ g, w2.heap.size = g := ⟨_, rfl⟩
  have B3 := (Below.refl w2.heap.size w2).alloc (Nat.le_refl _) (.cells (rc ⟨k, p, v, t, b, wn, 0⟩ bn cn (.slice A ms.length c)) 56)
  have K3 := Bk.new w2 56 (rc ⟨k, p, v, t, b, wn, 0⟩ bn cn (.slice A ms.length c))
  rw [hg] at K3
  have hsz : w.heap.size + 1 + 1 < g := by omega
  have hsw : w.heap.size ≤ w2.heap.size := L2.out.size
  have R3 : Rch _ g ⟨k, p, v, t, b, wn, 0⟩ bn cn ms A c := ⟨K3, HX.out.below (below3 L2.out B3), fun a ha => by
    rcases Nat.eq_zero_or_pos ms.length with h0 | h0
    · have := HD.out.len; omega
    · obtain ⟨bb, oo, e, hbb, -⟩ := HX.out.2.2.2 h0
      rw [e] at ha
      injection ha with ha
      subst ha
      show bb ≠ g
      omega⟩
  obtain ⟨j, hj, hent, hacc⟩ := access_any _ g ⟨k, p, v, t, b, wn, 0⟩ bn cn ms A c R3 HD.out FH.out.v hm rfl
  obtain rfl : i = j := Option.some.inj (hi.symm.trans hj)
  rw [ha] at hacc
  have HA := Lib.hid hacc
  have X3 := X2.below B3
  have L3 := Lib.hid (below3 L2.out B3)
  have S3 := Lib.hid B3.size
  clear K3 R3 hacc hj hi B3 X2 ha
  unfold rc at HA X3 L3 S3
  go_wp2_with fail
  refine HA.out.mono ?_
  rintro e w4 ⟨h1, ⟨rfl, hg4, A1, c3, R4⟩, hb⟩
  obtain ⟨k1, p1, v1, t1, b1, wn1, s1⟩ := h1
  have X4 := X3.grown hg4 hsz
  have L4 := Lib.hid (L3.out.grown hg4 (Nat.le_trans hsw S3.out) (fun k hk => by cases hk; omega))
  clear hg4 X3 q0 q1 q2 q3 q4 q5 q6 c0 c1 lh lq lr hent
  simp only at hb
  have v6 : _ = some (Value.int .i64 s1) := R4.bk.cell 6
  have v1' : _ = some (Value.int .i64 p1) := R4.bk.cell 1
  have h1c : _ = some (Value.int .i64 p) := X4.h.cell 1
  have lg0 := R4.bk.lt
  have lh0 := X4.h.lt
  by_cases he : s1 = 0 ∧ p1 = p
  · obtain ⟨e1, e2⟩ := he
    subst e1
    obtain rfl := e2
    have hw1 : IntKind.i64.wrap (p1 + 1) = p1 + 1 := by rw [IntKind.wrap_i64]; omega
    obtain rfl : h2 = ⟨k1, p1 + 1, v1, t1, b1, wn1, 0⟩ := by rw [hb]; simp [bump]
    have f1g := R4.bk.frozen 1
    have R5 := R4.set (h' := ⟨k1, p1 + 1, v1, t1, b1, wn1, 0⟩) 1 (.int .i64 (p1 + 1)) rfl
    have X5 := X4.grown (grown_set (w := w4) (g := g) (i := 1) (.int .i64 (p1 + 1))) hsz
    have L5 := L4.out.setCell (p := ⟨g, 1, none⟩) (by show w.heap.size ≤ g; omega) (.int .i64 (p1 + 1))
    obtain ⟨V, hV⟩ : ∃ V, w4.setCell ⟨g, 1, none⟩ (.int .i64 (p1 + 1)) = V := ⟨_, rfl⟩
    rw [hV] at R5 X5 L5
    have HV := Lib.hid hV
    have L5 := Lib.hid L5
    clear hV R4 X4 L4 hb
    go_wp2
    rw [HV.out]
    clear HV v6 v1' h1c lg0 lh0 f1g
    have r9 : _ = some (Value.slice A1 ms2.length c3) := R5.bk.cell 9
    have u0 : _ = some (Value.int .i64 k1) := R5.bk.cell 0
    have u1 : _ = some (Value.int .i64 (p1 + 1)) := R5.bk.cell 1
    have u2 : _ = some (Value.int .i64 v1) := R5.bk.cell 2
    have u3 : _ = some (Value.int .i64 t1) := R5.bk.cell 3
    have u4 : _ = some (Value.int .i64 b1) := R5.bk.cell 4
    have u5 : _ = some (Value.bool wn1) := R5.bk.cell 5
    have u6 : _ = some (Value.int .i64 0) := R5.bk.cell 6
    have lg := R5.bk.lt
    have kr : Bk V (w.heap.size + 1 + 1) 27 #[.int .i64 0, .int .i64 0, .int .i64 0, .int .i64 0, .int .i64 0, .bool false, .int .i64 0] := X5.r
    obtain ⟨p0, p1', p2, p3, p4, p5, p6⟩ := kr.c7
    obtain ⟨f0, f1, f2, f3, f4, f5, f6⟩ := kr.f7
    have lr := kr.lt
    have B2 := Lib.hid (below_set7 L5.out (by omega : w.heap.size ≤ w.heap.size + 1 + 1) (.int .i64 k1) (.int .i64 (p1 + 1)) (.int .i64 v1) (.int .i64 t1) (.int .i64 b1) (.bool wn1) (.int .i64 0)).drew
    have K2 := Lib.hid (bk_set7 kr (.int .i64 k1) (.int .i64 (p1 + 1)) (.int .i64 v1) (.int .i64 t1) (.int .i64 b1) (.bool wn1) (.int .i64 0)).drew
    have O2 := Lib.hid ((own_set7 (R5.own) hsz (.int .i64 k1) (.int .i64 (p1 + 1)) (.int .i64 v1) (.int .i64 t1) (.int .i64 b1) (.bool wn1) (.int .i64 0)).below (Below.refl _ _).drew)
    clear kr X5
    go_still_tail 5, (by kernel_rfl)
    change wpList _ _ _ _ _ V.drew
    go_wp2
    obtain ⟨r0, r1, r2, r3, r4, r5, r6⟩ := K2.out.c7
    unfold set7 at r0 r1 r2 r3 r4 r5 r6
    exact bodyPost_ret (v := .tuple #[.slice A1 ms2.length c3, .agg #[.int .i64 k1, .int .i64 (p1 + 1), .int .i64 v1, .int .i64 t1, .int .i64 b1, .bool wn1, .int .i64 0], .int .i64 0]) (by simp [results, Try.results8, go_sem, r0, r1, r2, r3, r4, r5, r6]) rfl ⟨A1, c3, rfl, O2.out.base (Nat.le_trans (by omega) (Nat.le_of_lt hsz)), B2.out⟩
  · obtain rfl : h2 = ⟨k1, p1, v1, t1, b1, wn1, s1⟩ := by rw [hb]; unfold bump; rw [if_neg he]
    by_cases e1 : s1 = 0
    · have e2 : (p1 == p) = false := by simpa using fun e => he ⟨e1, e⟩
      subst e1
      clear he hb
      go_wp2
      clear v6 v1' h1c lg0 lh0
      have r9 : _ = some (Value.slice A1 ms2.length c3) := R4.bk.cell 9
      have u0 : _ = some (Value.int .i64 k1) := R4.bk.cell 0
      have u1 : _ = some (Value.int .i64 p1) := R4.bk.cell 1
      have u2 : _ = some (Value.int .i64 v1) := R4.bk.cell 2
      have u3 : _ = some (Value.int .i64 t1) := R4.bk.cell 3
      have u4 : _ = some (Value.int .i64 b1) := R4.bk.cell 4
      have u5 : _ = some (Value.bool wn1) := R4.bk.cell 5
      have u6 : _ = some (Value.int .i64 0) := R4.bk.cell 6
      have lg := R4.bk.lt
      have kr : Bk w4 (w.heap.size + 1 + 1) 27 #[.int .i64 0, .int .i64 0, .int .i64 0, .int .i64 0, .int .i64 0, .bool false, .int .i64 0] := X4.r
      obtain ⟨p0, p1', p2, p3, p4, p5, p6⟩ := kr.c7
      obtain ⟨f0, f1, f2, f3, f4, f5, f6⟩ := kr.f7
      have lr := kr.lt
      have B2 := Lib.hid (below_set7 L4.out (by omega : w.heap.size ≤ w.heap.size + 1 + 1) (.int .i64 k1) (.int .i64 p1) (.int .i64 v1) (.int .i64 t1) (.int .i64 b1) (.bool wn1) (.int .i64 0)).drew
      have K2 := Lib.hid (bk_set7 kr (.int .i64 k1) (.int .i64 p1) (.int .i64 v1) (.int .i64 t1) (.int .i64 b1) (.bool wn1) (.int .i64 0)).drew
      have O2 := Lib.hid ((own_set7 (R4.own) hsz (.int .i64 k1) (.int .i64 p1) (.int .i64 v1) (.int .i64 t1) (.int .i64 b1) (.bool wn1) (.int .i64 0)).below (Below.refl _ _).drew)
      clear kr X4
      go_still_tail 5, (by kernel_rfl)
      change wpList _ _ _ _ _ w4.drew
      go_wp2
      obtain ⟨r0, r1, r2, r3, r4, r5, r6⟩ := K2.out.c7
      unfold set7 at r0 r1 r2 r3 r4 r5 r6
      exact bodyPost_ret (v := .tuple #[.slice A1 ms2.length c3, .agg #[.int .i64 k1, .int .i64 p1, .int .i64 v1, .int .i64 t1, .int .i64 b1, .bool wn1, .int .i64 0], .int .i64 0]) (by simp [results, Try.results8, go_sem, r0, r1, r2, r3, r4, r5, r6]) rfl ⟨A1, c3, rfl, O2.out.base (Nat.le_trans (by omega) (Nat.le_of_lt hsz)), B2.out⟩
    · have e2 : (s1 == 0) = false := by simpa using e1
      clear he hb e1
      go_wp2
      clear v6 v1' h1c lg0 lh0
      have r9 : _ = some (Value.slice A1 ms2.length c3) := R4.bk.cell 9
      have u0 : _ = some (Value.int .i64 k1) := R4.bk.cell 0
      have u1 : _ = some (Value.int .i64 p1) := R4.bk.cell 1
      have u2 : _ = some (Value.int .i64 v1) := R4.bk.cell 2
      have u3 : _ = some (Value.int .i64 t1) := R4.bk.cell 3
      have u4 : _ = some (Value.int .i64 b1) := R4.bk.cell 4
      have u5 : _ = some (Value.bool wn1) := R4.bk.cell 5
      have u6 : _ = some (Value.int .i64 s1) := R4.bk.cell 6
      have lg := R4.bk.lt
      have kr : Bk w4 (w.heap.size + 1 + 1) 27 #[.int .i64 0, .int .i64 0, .int .i64 0, .int .i64 0, .int .i64 0, .bool false, .int .i64 0] := X4.r
      obtain ⟨p0, p1', p2, p3, p4, p5, p6⟩ := kr.c7
      obtain ⟨f0, f1, f2, f3, f4, f5, f6⟩ := kr.f7
      have lr := kr.lt
      have B2 := Lib.hid (below_set7 L4.out (by omega : w.heap.size ≤ w.heap.size + 1 + 1) (.int .i64 k1) (.int .i64 p1) (.int .i64 v1) (.int .i64 t1) (.int .i64 b1) (.bool wn1) (.int .i64 s1)).drew
      have K2 := Lib.hid (bk_set7 kr (.int .i64 k1) (.int .i64 p1) (.int .i64 v1) (.int .i64 t1) (.int .i64 b1) (.bool wn1) (.int .i64 s1)).drew
      have O2 := Lib.hid ((own_set7 (R4.own) hsz (.int .i64 k1) (.int .i64 p1) (.int .i64 v1) (.int .i64 t1) (.int .i64 b1) (.bool wn1) (.int .i64 s1)).below (Below.refl _ _).drew)
      clear kr X4
      go_still_tail 5, (by kernel_rfl)
      change wpList _ _ _ _ _ w4.drew
      go_wp2
      obtain ⟨r0, r1, r2, r3, r4, r5, r6⟩ := K2.out.c7
      unfold set7 at r0 r1 r2 r3 r4 r5 r6
      exact bodyPost_ret (v := .tuple #[.slice A1 ms2.length c3, .agg #[.int .i64 k1, .int .i64 p1, .int .i64 v1, .int .i64 t1, .int .i64 b1, .bool wn1, .int .i64 s1], .int .i64 0]) (by simp [results, Try.results8, go_sem, r0, r1, r2, r3, r4, r5, r6]) rfl ⟨A1, c3, rfl, O2.out.base (Nat.le_trans (by omega) (Nat.le_of_lt hsz)), B2.out⟩
end Go.Proofs.Ytfmiamjbhlglbaa

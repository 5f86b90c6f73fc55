/-
  List in one form, and what the laws of layer 7 do with a deque at once.
-/
import Derived.Test.YtfmiamjbhlglbaaSl
namespace Go.Proofs.Ytfmiamjbhlglbaa
open Go.RowKit

theorem list_any (A : Option Addr) (n c : Nat) (base cap : Int) (ms : List Int) (w : World) (hx : Ints w A n ms) (fb : Fit base) (fc : Fit cap) :
    Calls Try.prog 15 #[.slice A n c, .agg #[.int .i64 base, .int .i64 cap]] w (ListOf (listF ms base cap) w) := by
  obtain rfl := hx.1
  unfold listF
  by_cases hq : MayQ ms.length base cap
  · rw [if_pos hq]
    obtain ⟨bn, rfl⟩ : ∃ bn : Nat, base = bn := ⟨base.toNat, by have := hq.2.2.2.1; omega⟩
    obtain ⟨cn, rfl⟩ : ∃ cn : Nat, cap = cn := ⟨cap.toNat, by have := hq.2.1; omega⟩
    simp only [Int.toNat_natCast]
    by_cases g0 : cntOk (nth ms bn) 0
    · by_cases g1 : cntOk (nth ms (bn + 1)) 0
      · by_cases g2 : nth ms (bn + 1) < nth ms bn
        · rw [if_neg (fun q => by have := q.2.2.1; omega)]
          exact list_2 A c bn cn ms w hx hq _ _ rfl rfl (decide_eq_true g0) (decide_eq_true g1) g2 g0 g1
        · by_cases g3 : (cn : Int) < nth ms (bn + 1) - nth ms bn
          · rw [if_neg (fun q => by have := q.2.2.2; omega)]
            exact list_3 A c bn cn ms w hx hq _ _ rfl rfl (decide_eq_true g0) (decide_eq_true g1) g2 g3 g0 g1
          · rw [if_pos ⟨g0, g1, by omega, by omega⟩]
            exact list_4 A c bn cn ms w hx hq _ _ rfl rfl (decide_eq_true g0) (decide_eq_true g1) g2 g3 g0 g1
      · rw [if_neg (fun q => g1 q.2.1)]
        exact list_1 A c bn cn ms w hx hq _ _ rfl rfl (decide_eq_true g0) (decide_eq_false g1)
    · rw [if_neg (fun q => g0 q.1)]
      exact list_0 A c bn cn ms w hx hq _ _ rfl rfl (decide_eq_false g0)
  · rw [if_neg hq]
    exact list_bad A _ c base cap w (by have := hx.2.1; omega) fb fc hq

theorem rlist_any (A : Option Addr) (n c : Nat) (base cap : Int) (ms : List Int) (w : World) (hx : Ints w A n ms) (fb : Fit base) (fc : Fit cap) :
    Calls Try.prog 16 #[.slice A n c, .agg #[.int .i64 base, .int .i64 cap]] w (ListOf (listF ms base cap) w) := by
  obtain rfl := hx.1
  unfold listF
  by_cases hq : MayQ ms.length base cap
  · rw [if_pos hq]
    obtain ⟨bn, rfl⟩ : ∃ bn : Nat, base = bn := ⟨base.toNat, by have := hq.2.2.2.1; omega⟩
    obtain ⟨cn, rfl⟩ : ∃ cn : Nat, cap = cn := ⟨cap.toNat, by have := hq.2.1; omega⟩
    simp only [Int.toNat_natCast]
    by_cases g0 : cntOk (nth ms bn) 0
    · by_cases g1 : cntOk (nth ms (bn + 1)) 0
      · by_cases g2 : nth ms (bn + 1) < nth ms bn
        · rw [if_neg (fun q => by have := q.2.2.1; omega)]
          exact rlist_2 A c bn cn ms w hx hq _ _ rfl rfl (decide_eq_true g0) (decide_eq_true g1) g2 g0 g1
        · by_cases g3 : (cn : Int) < nth ms (bn + 1) - nth ms bn
          · rw [if_neg (fun q => by have := q.2.2.2; omega)]
            exact rlist_3 A c bn cn ms w hx hq _ _ rfl rfl (decide_eq_true g0) (decide_eq_true g1) g2 g3 g0 g1
          · rw [if_pos ⟨g0, g1, by omega, by omega⟩]
            exact rlist_4 A c bn cn ms w hx hq _ _ rfl rfl (decide_eq_true g0) (decide_eq_true g1) g2 g3 g0 g1
      · rw [if_neg (fun q => g1 q.2.1)]
        exact rlist_1 A c bn cn ms w hx hq _ _ rfl rfl (decide_eq_true g0) (decide_eq_false g1)
    · rw [if_neg (fun q => g0 q.1)]
      exact rlist_0 A c bn cn ms w hx hq _ _ rfl rfl (decide_eq_false g0)
  · rw [if_neg hq]
    exact rlist_bad A _ c base cap w (by have := hx.2.1; omega) fb fc hq

/-- What is done at once: cells, the hand, and that it went well. -/
def DoneOf (ms : List Int) (h : Hd) (w : World) (e : Ending) (w' : World) : Prop :=
  ∃ A c, e = .returned (.tuple #[.slice A ms.length c, hv h, .bool true]) ∧ OwnI 2 w' w.heap.size A c ms ∧ Below w.heap.size w w'

set_option maxHeartbeats 2000000 in
theorem done_any (A : Option Addr) (c : Nat) (bn cn : Nat) (ms : List Int) (k v : Int) (w : World) (hx : Ints w A ms.length ms) (hq : MayQ ms.length bn cn) (hk : 0 < pcsF k) (fv : Fit v)
    (ms2 : List Int) (h2 : Hd) (ho : soloF bn cn 8 ms (newH k v) = some (ms2, h2)) (hs : h2.state ≠ 0) :
    Calls Try.prog 19 #[.slice A ms.length c, .agg #[.int .i64 bn, .int .i64 cn], .int .i64 k, .int .i64 v] w (DoneOf ms2 h2 w) := by
  obtain ⟨k0, k1, bl⟩ := lies2 w #[.int .i64 bn, .int .i64 cn] #[.int .i64 0, .int .i64 0, .int .i64 0, .int .i64 0, .int .i64 0, .bool false, .int .i64 0] 25 27
  obtain ⟨W, hW⟩ : ∃ W, ((w.alloc (.cells #[.int .i64 bn, .int .i64 cn] 25)).alloc (.cells #[.int .i64 0, .int .i64 0, .int .i64 0, .int .i64 0, .int .i64 0, .bool false, .int .i64 0] 27)) = W := ⟨_, rfl⟩
  rw [hW] at k0 k1 bl
  have K0 := Lib.hid k0
  have K1 := Lib.hid k1
  have BL := Lib.hid bl
  have HW := Lib.hid hW
  have HX := Lib.hid hx
  have FK := Lib.hid (kind_fit hk)
  have HK := Lib.hid hk
  have FV := Lib.hid fv
  have HO := Lib.hid ho
  obtain ⟨k1', p1, v1, t1, b1, wn1, s1⟩ := h2
  have hs1 : (s1 != 0) = true := by simpa using hs
  have HQ := Lib.hid hq
  clear hW k0 k1 bl hx hk fv ho hs hq
  go_enter Try.func19, Try.ntmps19
  go_upto_region 1 with fail
  rw [HW.out]
  clear HW
  go_wp2_with fail
  refine (start2_any k v _ FK.out).mono ?_
  rw [if_pos HK.out, if_pos HK.out]
  rintro e w1 ⟨rfl, b1'⟩
  unfold hv newH
  have kq := K0.out.below b1' K0.out.lt
  have kr := K1.out.below b1' K1.out.lt
  have L1 := below3 BL.out b1'
  have X1 := HX.out.below L1
  obtain ⟨s, hsz⟩ : ∃ s, w1.heap.size = s := ⟨_, rfl⟩
  have hss : w.heap.size + 1 < s := by rw [← hsz]; exact kr.lt
  have kh := Bk.new w1 27 #[.int .i64 k, .int .i64 0, .int .i64 v, .int .i64 0, .int .i64 0, .bool false, .int .i64 0]
  rw [hsz] at kh
  have ba := (Below.refl w1.heap.size w1).alloc (Nat.le_refl _) (.cells #[.int .i64 k, .int .i64 0, .int .i64 v, .int .i64 0, .int .i64 0, .bool false, .int .i64 0] 27)
  have kq2 := kq.below ba kq.lt
  have kr2 := kr.below ba kr.lt
  have L2 := below3 L1 ba
  have X2 := X1.below ba
  have hsl := solo_may A c bn cn ms (newH k v) _ X2 FV.out ((may_newk k v).2 HK.out) HQ.out _ HO.out
  unfold hv newH at hsl
  have HS := Lib.hid hsl
  obtain ⟨q0, q1, q2, q3, q4, q5, q6⟩ := kh.c7
  have c0 : _ = some (Value.int .i64 bn) := kq2.cell 0
  have c1 : _ = some (Value.int .i64 cn) := kq2.cell 1
  have d0 : _ = some (Value.int .i64 bn) := kq.cell 0
  have d1 : _ = some (Value.int .i64 cn) := kq.cell 1
  have lq := kq.lt
  have lq2 := kq2.lt
  have lh := kh.lt
  have KH := Lib.hid kh
  have KR := Lib.hid kr2
  have L2 := Lib.hid L2
  clear b1' kq kr L1 X1 kh ba kq2 kr2 X2 hsl
  go_wp2_with fail
  refine HS.out.mono ?_
  rintro e w2 ⟨A2, c2, rfl, o2, b2⟩
  clear q0 q1 q2 q3 q4 q5 q6 c0 c1 d0 d1 lq lq2 lh HS
  have kh := KH.out.below b2 KH.out.lt
  have kr := KR.out.below b2 KR.out.lt
  have L3 := below3 L2.out b2
  obtain ⟨q0, q1, q2, q3, q4, q5, q6⟩ := kh.c7
  obtain ⟨f0, f1, f2, f3, f4, f5, f6⟩ := kh.f7
  have l1 := kh.lt
  have LV := Lib.hid (below_set7 L3 (by omega : w.heap.size ≤ s) (.int .i64 k1') (.int .i64 p1) (.int .i64 v1) (.int .i64 t1) (.int .i64 b1) (.bool wn1) (.int .i64 s1))
  have KV := Lib.hid (bk_set7 kh (.int .i64 k1') (.int .i64 p1) (.int .i64 v1) (.int .i64 t1) (.int .i64 b1) (.bool wn1) (.int .i64 s1))
  have KR2 := Lib.hid (Bk.far7 kr (by omega : w.heap.size + 1 ≠ s) (.int .i64 k1') (.int .i64 p1) (.int .i64 v1) (.int .i64 t1) (.int .i64 b1) (.bool wn1) (.int .i64 s1))
  have OV := Lib.hid (own_set7 o2 (by have := KH.out.lt; omega) (.int .i64 k1') (.int .i64 p1) (.int .i64 v1) (.int .i64 t1) (.int .i64 b1) (.bool wn1) (.int .i64 s1))
  obtain ⟨V, hV⟩ : ∃ V, set7 w2 s (.int .i64 k1') (.int .i64 p1) (.int .i64 v1) (.int .i64 t1) (.int .i64 b1) (.bool wn1) (.int .i64 s1) = V := ⟨_, rfl⟩
  rw [hV] at LV KV KR2 OV
  unfold set7 at hV
  have HV := Lib.hid hV
  clear hV kh kr L3 o2 b2
  unfold soloR hv
  go_wp2
  rw [HV.out]
  clear HV q0 q1 q2 q3 q4 q5 q6 f0 f1 f2 f3 f4 f5 f6 l1
  obtain ⟨q0, q1, q2, q3, q4, q5, q6⟩ := KR2.out.c7
  obtain ⟨f0, f1, f2, f3, f4, f5, f6⟩ := KR2.out.f7
  have l2 := KR2.out.lt
  have hos : w.heap.size + 1 < (w1.alloc (.cells #[.int .i64 k, .int .i64 0, .int .i64 v, .int .i64 0, .int .i64 0, .bool false, .int .i64 0] 27)).heap.size := by have := KH.out.lt; omega
  have B2 := Lib.hid (below_set7 LV.out (by omega : w.heap.size ≤ w.heap.size + 1) (.int .i64 k1') (.int .i64 p1) (.int .i64 v1) (.int .i64 t1) (.int .i64 b1) (.bool wn1) (.int .i64 s1)).drew
  have K2 := Lib.hid (bk_set7 KR2.out (.int .i64 k1') (.int .i64 p1) (.int .i64 v1) (.int .i64 t1) (.int .i64 b1) (.bool wn1) (.int .i64 s1)).drew
  have O2 := Lib.hid ((own_set7 OV.out hos (.int .i64 k1') (.int .i64 p1) (.int .i64 v1) (.int .i64 t1) (.int .i64 b1) (.bool wn1) (.int .i64 s1)).below (Below.refl _ _).drew)
  have hS1 := Lib.hid (Bk.far7 KV.out (by omega : s ≠ w.heap.size + 1) (.int .i64 k1') (.int .i64 p1) (.int .i64 v1) (.int .i64 t1) (.int .i64 b1) (.bool wn1) (.int .i64 s1)).drew
  unfold set7 at hS1
  refine wp_region_held (S := fun U => Bk U s 27 #[.int .i64 k1', .int .i64 p1, .int .i64 v1, .int .i64 t1, .int .i64 b1, .bool wn1, .int .i64 s1]) (by kernel_rfl) ?_
  change wpAnyH _ _ _ _ _ _ _ _ (World.drew _)
  have hS0 := KV.out.drew
  refine take_at (i := 0) (d := 28) (v := .slice A2 ms2.length c2) rfl rfl (by kernel_rfl) (by kernel_rfl) (by kernel_rfl) (fun _ _ _ h => h) (.inl ⟨by kernel_rfl, fun U hU => by go_simp⟩) hS0 ?_
  simp only [Act.put, List.setIfInBounds_toArray, List.set_cons_zero, List.set_cons_succ]
  refine take_at (i := 1) (d := 29) (v := .agg #[.int .i64 k1', .int .i64 p1, .int .i64 v1, .int .i64 t1, .int .i64 b1, .bool wn1, .int .i64 s1]) rfl rfl (by kernel_rfl) (by kernel_rfl) (by kernel_rfl) (fun _ _ _ h => h) (.inl ⟨by kernel_rfl, fun U hU => by obtain ⟨h0, h1, h2, h3, h4, h5, h6⟩ := hU.c7; go_simp⟩) hS0 ?_
  simp only [Act.put, List.setIfInBounds_toArray, List.set_cons_zero, List.set_cons_succ]
  refine take_at (i := 2) (d := 30) (v := .int .i64 0) rfl rfl (by kernel_rfl) (by kernel_rfl) (by kernel_rfl) (fun _ _ _ h => h) (.inl ⟨by kernel_rfl, fun U hU => by go_simp⟩) hS0 ?_
  simp only [Act.put, List.setIfInBounds_toArray, List.set_cons_zero, List.set_cons_succ]
  refine take_at (i := 3) (d := 31) (v := .bool true) rfl rfl (by kernel_rfl) (by kernel_rfl) (by kernel_rfl) (fun _ _ _ h => h) (.inl ⟨by kernel_rfl, fun U hU => by go_simp⟩) hS0 ?_
  simp only [Act.put, List.setIfInBounds_toArray, List.set_cons_zero, List.set_cons_succ]
  refine take_at (i := 4) (d := 32) (v := .bool true) rfl rfl (by kernel_rfl) (by kernel_rfl) (by kernel_rfl) (fun _ _ _ h => h) (.inl ⟨by kernel_rfl, fun U hU => by go_simp⟩) hS0 ?_
  simp only [Act.put, List.setIfInBounds_toArray, List.set_cons_zero, List.set_cons_succ]
  refine take_at (i := 5) (d := 33) (v := .int .i64 0) rfl rfl (by kernel_rfl) (by kernel_rfl) (by kernel_rfl) (fun _ _ _ h => h) (.inl ⟨by kernel_rfl, fun U hU => by go_simp⟩) hS0 ?_
  simp only [Act.put, List.setIfInBounds_toArray, List.set_cons_zero, List.set_cons_succ]
  refine take_at (i := 6) (d := 34) (v := .bool true) rfl rfl (by kernel_rfl) (by kernel_rfl) (by kernel_rfl) (fun _ _ _ h => h) (.inl ⟨by kernel_rfl, fun U hU => by go_simp⟩) hS0 ?_
  simp only [Act.put, List.setIfInBounds_toArray, List.set_cons_zero, List.set_cons_succ]
  refine take_at (i := 7) (d := 35) (v := .bool true) rfl rfl (by kernel_rfl) (by kernel_rfl) (by kernel_rfl) (fun _ _ _ h => h) (.inl ⟨by kernel_rfl, fun U hU => by go_simp⟩) hS0 ?_
  simp only [Act.put, List.setIfInBounds_toArray, List.set_cons_zero, List.set_cons_succ]
  refine take_at (i := 8) (d := 36) (v := .bool true) rfl rfl (by kernel_rfl) (by kernel_rfl) (by kernel_rfl) (fun _ _ _ h => h) (.inl ⟨by kernel_rfl, fun U hU => by go_simp⟩) hS0 ?_
  simp only [Act.put, List.setIfInBounds_toArray, List.set_cons_zero, List.set_cons_succ]
  refine take_at (i := 9) (d := 37) (v := .pointer (some ⟨s, 6, none⟩)) rfl rfl (by kernel_rfl) (by kernel_rfl) (by kernel_rfl) (fun _ _ _ h => h) (.inl ⟨by kernel_rfl, fun U hU => by go_simp⟩) hS0 ?_
  simp only [Act.put, List.setIfInBounds_toArray, List.set_cons_zero, List.set_cons_succ]
  refine take_at (i := 10) (d := 38) (v := .int .i64 s1) rfl rfl (by kernel_rfl) (by kernel_rfl) (by kernel_rfl) (fun _ _ _ h => h) (.inl ⟨by kernel_rfl, fun U hU => by obtain ⟨h0, h1, h2, h3, h4, h5, h6⟩ := hU.c7; go_simp⟩) hS0 ?_
  simp only [Act.put, List.setIfInBounds_toArray, List.set_cons_zero, List.set_cons_succ]
  refine take_at (i := 11) (d := 39) (v := .bool true) rfl rfl (by kernel_rfl) (by kernel_rfl) (by kernel_rfl) (fun _ _ _ h => h) (.inl ⟨by kernel_rfl, fun U hU => by go_simp⟩) hS0 ?_
  simp only [Act.put, List.setIfInBounds_toArray, List.set_cons_zero, List.set_cons_succ]
  refine take_at (i := 12) (d := 40) (v := .bool true) rfl rfl (by kernel_rfl) (by kernel_rfl) (by kernel_rfl) (fun _ _ _ h => h) (.inl ⟨by kernel_rfl, fun U hU => by go_simp⟩) hS0 ?_
  simp only [Act.put, List.setIfInBounds_toArray, List.set_cons_zero, List.set_cons_succ]
  refine take_at (i := 13) (d := 8) (v := .slice A2 ms2.length c2) rfl rfl (by kernel_rfl) (by kernel_rfl) (by kernel_rfl) (fun _ _ _ h => h) (.inl ⟨by kernel_rfl, fun U hU => by go_simp⟩) hS0 ?_
  simp only [Act.put, List.setIfInBounds_toArray, List.set_cons_zero, List.set_cons_succ]
  refine wpAnyH_all (rs := [14]) (by kernel_rfl) (by simp) ?_
  intro i hi
  simp only [List.mem_cons, List.not_mem_nil, or_false] at hi
  subst hi
  unfold wpOp
  go_simp
  left
  refine ⟨hS1.out, ?_⟩
  refine take_at (i := 15) (d := 10) (v := .bool true) rfl rfl (by kernel_rfl) (by kernel_rfl) (by kernel_rfl) (fun _ _ _ h => h) (.inl ⟨by kernel_rfl, fun U hU => by go_simp⟩) hS1.out ?_
  simp only [Act.put, List.setIfInBounds_toArray, List.set_cons_zero, List.set_cons_succ]
  refine wpAnyH_done (by kernel_rfl) ?_ _
  clear hS0
  go_wp2
  obtain ⟨r0, r1, r2, r3, r4, r5, r6⟩ := K2.out.c7
  unfold set7 at r0 r1 r2 r3 r4 r5 r6
  exact bodyPost_ret (v := .tuple #[.slice A2 ms2.length c2, .agg #[.int .i64 k1', .int .i64 p1, .int .i64 v1, .int .i64 t1, .int .i64 b1, .bool wn1, .int .i64 s1], .bool true]) (by simp [results, Try.results19, go_sem, r0, r1, r2, r3, r4, r5, r6]) rfl ⟨A2, c2, rfl, O2.out.base (by omega), B2.out⟩

end Go.Proofs.Ytfmiamjbhlglbaa

/-
  The contracts of the program's Step in one form, of Start, and of Solo for a hand that is going (layer 7).
-/
import Derived.Test.YthnphcfmpafhhaaSb
import Derived.Test.YthnphcfmpafhhaaRgS
import Derived.Deep.LoopGhost
namespace Go.Proofs.Ythnphcfmpafhhaa
open Go.RowKit Go.Maps

theorem fit_cell {ms : List Int} (h : ∀ z ∈ ms, Fit z) (i : Nat) : Fit (nth ms i) := by
  by_cases hi : i < ms.length
  · rw [nth_get hi]; exact h _ (List.getElem_mem hi)
  · rw [nth_beyond (by omega)]; exact fit0
section
variable {ms ms' : List Int} {base cap : Nat} {h h' : Hd}
/-- A hand's number goes into 64 bits. -/
theorem acc_fit (ha : accF ms base cap h = some (ms', h')) (hf : ∀ z ∈ ms, Fit z) (hv : Fit h.v) : Fit h'.v := by
  unfold accF at ha
  split at ha
  · unfold pushF at ha
    repeat' split at ha
    all_goals first
      | (cases ha; done)
      | (injection ha with ha; injection ha with _ ha; subst ha; exact hv)
  · split at ha
    · unfold popF at ha
      repeat' split at ha
      all_goals first
        | (cases ha; done)
        | (injection ha with ha; injection ha with _ ha; subst ha; first | exact hv | exact fit_cell hf _)
    · unfold stealF at ha
      repeat' split at ha
      all_goals first
        | (cases ha; done)
        | (injection ha with ha; injection ha with _ ha; subst ha; first | exact hv | exact fit_cell hf _)
end
theorem kind_fit {k : Int} (h : 0 < pcsF k) : Fit k := by rcases pcs_kind h with rfl | rfl | rfl <;> exact ⟨by omega, by omega⟩
theorem HdF.of_may {h : Hd} (hm : MayH h) (hv : Fit h.v) : HdF h :=
  ⟨kind_fit (Int.lt_of_le_of_lt hm.1 hm.2.1), ⟨by have := hm.1; omega, by have := pc_lt hm.2.1; omega⟩, hv, ⟨by have := hm.2.2.2.2.1; omega, by have := hm.2.2.2.2.2; omega⟩⟩

theorem step_any (A : Option Addr) (n c : Nat) (base cap : Int) (ms : List Int) (h : Hd) (w : World) (hx : Ints w A n ms) (fb : Fit base) (fc : Fit cap) (fh : HdF h) :
    Calls Try.prog 22 #[.slice A n c, .agg #[.int .i64 base, .int .i64 cap], hv h] w (StepOf (stepF ms base cap h) w) := by
  obtain rfl := hx.1
  obtain ⟨k, p, v, t, b, wn, s⟩ := h
  unfold stepF
  by_cases hm : MayH ⟨k, p, v, t, b, wn, s⟩
  · by_cases hq : MayQ ms.length base cap
    · rw [if_pos ⟨hm, hq⟩]
      by_cases hs : s = 0
      · subst hs
        rw [if_pos rfl]
        obtain ⟨bn, rfl⟩ : ∃ bn : Nat, base = bn := ⟨base.toNat, by have := hq.2.2.2.1; omega⟩
        obtain ⟨cn, rfl⟩ : ∃ cn : Nat, cap = cn := ⟨cap.toNat, by have := hq.2.1; omega⟩
        simp only [Int.toNat_natCast]
        cases ha : accF ms bn cn ⟨k, p, v, t, b, wn, 0⟩ with
        | none => exact step_no A c bn cn ms k p v t b wn w hx fh hm hq ha
        | some r => exact step_ok A c bn cn ms k p v t b wn w hx fh hm hq r.1 r.2 ha
      · rw [if_neg hs]
        exact step_state A _ c base cap ms k p v t b wn s w hx fb fc fh hm hq hs
    · rw [if_neg (fun q => hq q.2)]
      exact step_deque A _ c base cap ms k p v t b wn s w hx fb fc fh hm hq
  · rw [if_neg (fun q => hm q.1)]
    exact step_hand A _ c base cap ms k p v t b wn s w hx fh hm

theorem may_newk (k v : Int) : MayH (newH k v) ↔ 0 < pcsF k := by
  unfold MayH newH cntOk
  simp only
  constructor
  · intro h; exact h.2.1
  · intro h; exact ⟨by omega, h, by omega, by omega, by omega, by omega⟩

theorem start2_any (k v : Int) (w : World) (fk : Fit k) : Calls Try.prog 20 #[.int .i64 k, .int .i64 v] w
    (RetB (.tuple #[if 0 < pcsF k then hv (newH k v) else hv noH, .int .i64 (if 0 < pcsF k then 0 else 1)]) w) := by
  obtain ⟨k0, k1, bl⟩ := lies2 w #[.int .i64 0, .int .i64 0, .int .i64 0, .int .i64 0, .int .i64 0, .bool false, .int .i64 0] #[.int .i64 k, .int .i64 0, .int .i64 v, .int .i64 0, .int .i64 0, .bool false, .int .i64 0] 36 36
  have BL := Lib.hid bl
  have hn := next_any (newH k v)
  by_cases h1 : 0 < pcsF k
  all_goals
    have hm := may_newk k v
    first | rw [if_pos h1, if_pos h1] | rw [if_neg h1, if_neg h1]
    have K0 := Lib.hid k0
    have K1 := Lib.hid k1
    obtain ⟨q0, q1, q2, q3, q4, q5, q6⟩ := k1.c7
    have l1 := k1.lt
    have FK := Lib.hid fk
    first | have HN := Lib.hid (fun w' => if_pos (hm.2 h1) ▸ hn w' fk fit0) | have HN := Lib.hid (fun w' => if_neg (fun q => h1 (hm.1 q)) ▸ hn w' fk fit0)
    clear k0 k1 bl hn hm h1 fk
    first | unfold newH hv | unfold noH hv
    unfold newH hv at HN
    go_enter Try.func20, Try.ntmps20
    go_wp2_with fail
    refine (HN.out _).mono ?_
    rintro e w1 ⟨rfl, b1⟩
    have kr := K0.out.below b1 K0.out.lt
    have kh := K1.out.below b1 K1.out.lt
    have L1 := below3 BL.out b1
    clear b1 q0 q1 q2 q3 q4 q5 q6 l1
    obtain ⟨q0, q1, q2, q3, q4, q5, q6⟩ := kh.c7
    have l1 := kh.lt
    obtain ⟨p0, p1, p2, p3, p4, p5, p6⟩ := kr.c7
    obtain ⟨f0, f1, f2, f3, f4, f5, f6⟩ := kr.f7
    have l0 := kr.lt
  · have B2 := Lib.hid (below_set7 L1 (Nat.le_refl _) (.int .i64 k) (.int .i64 0) (.int .i64 v) (.int .i64 0) (.int .i64 0) (.bool false) (.int .i64 0))
    have K2 := Lib.hid (bk_set7 kr (.int .i64 k) (.int .i64 0) (.int .i64 v) (.int .i64 0) (.int .i64 0) (.bool false) (.int .i64 0))
    clear L1 kr kh
    go_wp2
    obtain ⟨r0, r1, r2, r3, r4, r5, r6⟩ := K2.out.c7
    unfold set7 at r0 r1 r2 r3 r4 r5 r6
    exact bodyPost_ret (v := .tuple #[.agg #[.int .i64 k, .int .i64 0, .int .i64 v, .int .i64 0, .int .i64 0, .bool false, .int .i64 0], .int .i64 0]) (by simp [results, Try.results20, go_sem, r0, r1, r2, r3, r4, r5, r6]) rfl ⟨rfl, B2.out⟩
  · have B2 := Lib.hid (below_set7 L1 (Nat.le_refl _) (.int .i64 0) (.int .i64 0) (.int .i64 0) (.int .i64 0) (.int .i64 0) (.bool false) (.int .i64 0))
    have K2 := Lib.hid (bk_set7 kr (.int .i64 0) (.int .i64 0) (.int .i64 0) (.int .i64 0) (.int .i64 0) (.bool false) (.int .i64 0))
    clear L1 kr kh
    go_wp2
    obtain ⟨r0, r1, r2, r3, r4, r5, r6⟩ := K2.out.c7
    unfold set7 at r0 r1 r2 r3 r4 r5 r6
    exact bodyPost_ret (v := .tuple #[.agg #[.int .i64 0, .int .i64 0, .int .i64 0, .int .i64 0, .int .i64 0, .bool false, .int .i64 0], .int .i64 1]) (by simp [results, Try.results20, go_sem, r0, r1, r2, r3, r4, r5, r6]) rfl ⟨rfl, B2.out⟩

/-- What Solo comes to. -/
def soloR (o : Option (List Int × Hd)) : Int × List Int × Hd := match o with | none => (9, [], noH) | some r => (0, r.1, r.2)
/-- The round of Solo: the boxes, the cells, what is still to come. -/
structure SoI (W : World) (w : World) (bn cn : Nat) (o : Option (List Int × Hd)) (len k : Nat) (A : Option Addr) (ms : List Int) (h : Hd) : Prop where
  ints : Ints W A ms.length ms
  q : Bk W w.heap.size 25 #[.int .i64 bn, .int .i64 cn]
  hb : Bk W (w.heap.size + 1) 36 (hc h)
  r : Bk W (w.heap.size + 1 + 1) 36 #[.int .i64 0, .int .i64 0, .int .i64 0, .int .i64 0, .int .i64 0, .bool false, .int .i64 0]
  bl : Below w.heap.size w W
  may : MayH h
  st : h.state = 0
  fv : Fit h.v
  so : soloF bn cn k ms h = o
  pc : 8 ≤ (k : Int) + h.pc
  ln : ms.length = len
def SoRel (w : World) (bn cn : Nat) (o : Option (List Int × Hd)) (len k : Nat) (t : Value) (W : World) : Prop :=
  ∃ A c ms h, t = .slice A ms.length c ∧ SoI W w bn cn o len k A ms h

theorem Bk.far7 {W : World} {g g' : Nat} {t : TypeId} {cs : Array Value} (h : Bk W g t cs) (hne : g ≠ g') (v0 v1 v2 v3 v4 v5 v6 : Value) : Bk (set7 W g' v0 v1 v2 v3 v4 v5 v6) g t cs :=
  ((((((h.far (p := ⟨g', 0, none⟩) hne v0).far (p := ⟨g', 1, none⟩) hne v1).far (p := ⟨g', 2, none⟩) hne v2).far (p := ⟨g', 3, none⟩) hne v3).far (p := ⟨g', 4, none⟩) hne v4).far (p := ⟨g', 5, none⟩) hne v5).far (p := ⟨g', 6, none⟩) hne v6

set_option maxHeartbeats 2000000 in
theorem solo_going (A : Option Addr) (c : Nat) (bn cn : Nat) (ms : List Int) (h : Hd) (w : World) (hx : Ints w A ms.length ms) (hv' : Fit h.v) (hm : MayH h) (hq : MayQ ms.length bn cn) (hs : h.state = 0) (o : Option (List Int × Hd)) (ho : soloF bn cn 8 ms h = o) :
    Calls Try.prog 21 #[.slice A ms.length c, .agg #[.int .i64 bn, .int .i64 cn], hv h] w (StepOf (soloR o) w) := by
  have FB := Lib.hid (⟨by omega, by have := hq.2.2.2.2.1; have := hq.1; omega⟩ : Fit (bn : Int))
  have FC := Lib.hid (⟨by omega, by have := hq.2.2.1; omega⟩ : Fit (cn : Int))
  obtain ⟨hbx, hbl⟩ := box3 w (bn : Int) (cn : Int) h
  obtain ⟨W, hW⟩ : ∃ W, (((w.alloc (.cells #[.int .i64 bn, .int .i64 cn] 25)).alloc (.cells (hc h) 36)).alloc (.cells z7 36)) = W := ⟨_, rfl⟩
  rw [hW] at hbx hbl
  have I0 := Lib.hid (⟨hx.below hbl, hbx.q, hbx.h, hbx.r, hbl, hm, hs, hv', ho, by have := hm.1; omega, rfl⟩ : SoI W w bn cn o ms.length 8 A ms h)
  have HQ := Lib.hid hq
  unfold hc z7 at hW
  have HW := Lib.hid hW
  clear hW hbx hbl hx hv' hm hs ho hq
  unfold hv
  go_enter Try.func21, Try.ntmps21
  go_wp2
  rw [HW.out]
  clear HW
  go_loopg [0] 8 (fun k t wr => SoRel w bn cn o ms.length k t wr)
  case atStart => exact ⟨A, c, ms, h, rfl, I0.out⟩
  case round =>
    obtain ⟨A1, c1, msj, hj, rfl, ij⟩ := hrel
    have IJ := Lib.hid ij
    obtain ⟨q0, q1, q2, q3, q4, q5, q6⟩ := ij.hb.c7
    have c0 : _ = some (Value.int .i64 bn) := ij.q.cell 0
    have c1' : _ = some (Value.int .i64 cn) := ij.q.cell 1
    have l0 := ij.q.lt
    have l1 := ij.hb.lt
    have l2 := ij.r.lt
    have hst := step_any A1 msj.length c1 bn cn msj hj wr ij.ints FB.out FC.out (HdF.of_may ij.may ij.fv)
    unfold hv at hst
    have hsf : stepF msj bn cn hj = (match accF msj bn cn hj with | none => (9, [], noH) | some r => (0, r.1, r.2)) := by
      unfold stepF
      rw [if_pos ⟨ij.may, by rw [ij.ln]; exact HQ.out⟩, if_pos ij.st, Int.toNat_natCast, Int.toNat_natCast]
      rfl
    rw [hsf] at hst
    have hk1 : 1 ≤ gk := by have := pc_lt ij.may.2.1; have := ij.pc; omega
    obtain ⟨f0, f1, f2, f3, f4, f5, f6⟩ := ij.hb.f7
    have hso := ij.so
    have hst0 := ij.st
    clear ij hsf
    obtain ⟨kk, rfl⟩ : ∃ kk, gk = kk + 1 := ⟨gk - 1, by omega⟩
    have I1 := IJ
    cases ha : accF msj bn cn hj with
    | none =>
      rw [ha] at hst
      rw [solo_no kk hst0 ha] at hso
      have HST := Lib.hid hst
      subst hso
      clear hst hst0 ha hk1 f0 f1 f2 f3 f4 f5 f6
      go_wp2_with fail
      refine HST.out.mono ?_
      rintro e w2 ⟨A2, c2, rfl, o2, b2⟩
      clear HST q0 q1 q2 q3 q4 q5 q6 l1 c0 c1' l0 l2
      simp only [List.length_nil, noH, hv]
      have kh := IJ.out.hb.below b2 IJ.out.hb.lt
      have kq := IJ.out.q.below b2 IJ.out.q.lt
      have kr := IJ.out.r.below b2 IJ.out.r.lt
      obtain ⟨q0, q1, q2, q3, q4, q5, q6⟩ := kh.c7
      obtain ⟨f0, f1, f2, f3, f4, f5, f6⟩ := kh.f7
      have l1 := kh.lt
      have LV := Lib.hid (below_set7 (below3 IJ.out.bl b2 (by have := IJ.out.bl.size; omega)) (by omega : w.heap.size ≤ w.heap.size + 1) (.int .i64 0) (.int .i64 0) (.int .i64 0) (.int .i64 0) (.int .i64 0) (.bool false) (.int .i64 0))
      have KV := Lib.hid (bk_set7 kh (.int .i64 0) (.int .i64 0) (.int .i64 0) (.int .i64 0) (.int .i64 0) (.bool false) (.int .i64 0))
      have KQ := Lib.hid (Bk.far7 kq (by omega : w.heap.size ≠ w.heap.size + 1) (.int .i64 0) (.int .i64 0) (.int .i64 0) (.int .i64 0) (.int .i64 0) (.bool false) (.int .i64 0))
      have KR := Lib.hid (Bk.far7 kr (by omega : w.heap.size + 1 + 1 ≠ w.heap.size + 1) (.int .i64 0) (.int .i64 0) (.int .i64 0) (.int .i64 0) (.int .i64 0) (.bool false) (.int .i64 0))
      have OV := Lib.hid (own_set7 o2 (by have := IJ.out.hb.lt; omega) (.int .i64 0) (.int .i64 0) (.int .i64 0) (.int .i64 0) (.int .i64 0) (.bool false) (.int .i64 0))
      obtain ⟨V, hV⟩ : ∃ V, set7 w2 (w.heap.size + 1) (.int .i64 0) (.int .i64 0) (.int .i64 0) (.int .i64 0) (.int .i64 0) (.bool false) (.int .i64 0) = V := ⟨_, rfl⟩
      rw [hV] at LV KV KQ KR OV
      unfold set7 at hV
      have HV := Lib.hid hV
      clear hV kh kq kr b2 o2
      go_wp2
      rw [HV.out]
      clear HV q0 q1 q2 q3 q4 q5 q6 f0 f1 f2 f3 f4 f5 f6 l1
      obtain ⟨u0, u1, u2, u3, u4, u5, u6⟩ := KV.out.c7
      obtain ⟨q0, q1, q2, q3, q4, q5, q6⟩ := KR.out.c7
      obtain ⟨f0, f1, f2, f3, f4, f5, f6⟩ := KR.out.f7
      have l1 := KV.out.lt
      have l2 := KR.out.lt
      have hgs : w.heap.size + 1 + 1 < wr.heap.size := IJ.out.r.lt
      have B2 := Lib.hid (below_set7 LV.out (by omega : w.heap.size ≤ w.heap.size + 1 + 1) (.int .i64 0) (.int .i64 0) (.int .i64 0) (.int .i64 0) (.int .i64 0) (.bool false) (.int .i64 0)).drew
      have K2 := Lib.hid (bk_set7 KR.out (.int .i64 0) (.int .i64 0) (.int .i64 0) (.int .i64 0) (.int .i64 0) (.bool false) (.int .i64 0)).drew
      have O2 := Lib.hid ((own_set7 OV.out hgs (.int .i64 0) (.int .i64 0) (.int .i64 0) (.int .i64 0) (.int .i64 0) (.bool false) (.int .i64 0)).below (Below.refl _ _).drew)
      have hS1 := Lib.hid (Bk.far7 KV.out (by omega : w.heap.size + 1 ≠ w.heap.size + 1 + 1) (.int .i64 0) (.int .i64 0) (.int .i64 0) (.int .i64 0) (.int .i64 0) (.bool false) (.int .i64 0)).drew
      unfold set7 at hS1
      clear u0 u1 u2 u3 u4 u5 u6
      refine wp_region_held (S := fun U => Bk U (w.heap.size + 1) 36 #[.int .i64 0, .int .i64 0, .int .i64 0, .int .i64 0, .int .i64 0, .bool false, .int .i64 0]) (by kernel_rfl) ?_
      change wpAnyH _ _ _ _ _ _ _ _ (World.drew _)
      have hS0 := KV.out.drew
      refine take_at (i := 0) (d := 25) (v := .slice A2 0 c2) rfl rfl (by kernel_rfl) (by kernel_rfl) (by kernel_rfl) (fun _ _ _ h => h) (.inl ⟨by kernel_rfl, fun U hU => by go_simp⟩) hS0 ?_
      simp only [Act.put, List.setIfInBounds_toArray, List.set_cons_zero, List.set_cons_succ]
      refine take_at (i := 1) (d := 26) (v := .agg #[.int .i64 0, .int .i64 0, .int .i64 0, .int .i64 0, .int .i64 0, .bool false, .int .i64 0]) rfl rfl (by kernel_rfl) (by kernel_rfl) (by kernel_rfl) (fun _ _ _ h => h) (.inl ⟨by kernel_rfl, fun U hU => by obtain ⟨h0, h1, h2, h3, h4, h5, h6⟩ := hU.c7; go_simp⟩) hS0 ?_
      simp only [Act.put, List.setIfInBounds_toArray, List.set_cons_zero, List.set_cons_succ]
      refine take_at (i := 2) (d := 27) (v := .int .i64 9) rfl rfl (by kernel_rfl) (by kernel_rfl) (by kernel_rfl) (fun _ _ _ h => h) (.inl ⟨by kernel_rfl, fun U hU => by go_simp⟩) hS0 ?_
      simp only [Act.put, List.setIfInBounds_toArray, List.set_cons_zero, List.set_cons_succ]
      refine take_at (i := 3) (d := 6) (v := .slice A2 0 c2) rfl rfl (by kernel_rfl) (by kernel_rfl) (by kernel_rfl) (fun _ _ _ h => h) (.inl ⟨by kernel_rfl, fun U hU => by go_simp⟩) hS0 ?_
      simp only [Act.put, List.setIfInBounds_toArray, List.set_cons_zero, List.set_cons_succ]
      refine wpAnyH_all (rs := [4]) (by kernel_rfl) (by simp) ?_
      intro i hi
      simp only [List.mem_cons, List.not_mem_nil, or_false] at hi
      subst hi
      unfold wpOp
      go_simp
      left
      refine ⟨hS1.out, ?_⟩
      refine take_at (i := 5) (d := 8) (v := .int .i64 9) rfl rfl (by kernel_rfl) (by kernel_rfl) (by kernel_rfl) (fun _ _ _ h => h) (.inl ⟨by kernel_rfl, fun U hU => by go_simp⟩) hS1.out ?_
      simp only [Act.put, List.setIfInBounds_toArray, List.set_cons_zero, List.set_cons_succ]
      refine wpAnyH_done (by kernel_rfl) ?_ _
      clear hS0
      go_wp2
      obtain ⟨r0, r1, r2, r3, r4, r5, r6⟩ := K2.out.c7
      unfold set7 at r0 r1 r2 r3 r4 r5 r6
      exact bodyPost_ret (v := .tuple #[.slice A2 0 c2, .agg #[.int .i64 0, .int .i64 0, .int .i64 0, .int .i64 0, .int .i64 0, .bool false, .int .i64 0], .int .i64 9]) (by simp [results, Try.results21, go_sem, r0, r1, r2, r3, r4, r5, r6]) rfl ⟨A2, c2, rfl, O2.out.base (by omega), B2.out⟩
    | some z =>
      obtain ⟨ms', h'⟩ := z
      rw [ha] at hst
      have hmay := (acc_may IJ.out.may ha).1
      have hfv := acc_fit ha IJ.out.ints.2.2.1 IJ.out.fv
      have hon := acc_on ha
      have hln := acc_len ha
      rw [solo_on kk hst0 ha] at hso
      have HST := Lib.hid hst
      obtain ⟨k1, p1, v1, t1, b1, wn1, s1⟩ := h'
      have HM := Lib.hid hmay
      have HFV := Lib.hid hfv
      have HON := Lib.hid hon
      have HLN := Lib.hid hln
      clear hst ha hk1 f0 f1 f2 f3 f4 f5 f6 hmay hfv hon hln
      by_cases hs1 : s1 = 0
      · subst hs1
        have HSO := Lib.hid hso
        clear hso hst0
        go_wp2_with fail
        refine HST.out.mono ?_
        rintro e w2 ⟨A2, c2, rfl, o2, b2⟩
        clear HST q0 q1 q2 q3 q4 q5 q6 l1 c0 c1' l0 l2
        simp only [hv]
        have HI := Lib.hid (o2.ints)
        have kh := IJ.out.hb.below b2 IJ.out.hb.lt
        have kq := IJ.out.q.below b2 IJ.out.q.lt
        have kr := IJ.out.r.below b2 IJ.out.r.lt
        obtain ⟨q0, q1, q2, q3, q4, q5, q6⟩ := kh.c7
        obtain ⟨f0, f1, f2, f3, f4, f5, f6⟩ := kh.f7
        have l1 := kh.lt
        have LV := Lib.hid (below_set7 (below3 IJ.out.bl b2 (by have := IJ.out.bl.size; omega)) (by omega : w.heap.size ≤ w.heap.size + 1) (.int .i64 k1) (.int .i64 p1) (.int .i64 v1) (.int .i64 t1) (.int .i64 b1) (.bool wn1) (.int .i64 0))
        have KV := Lib.hid (bk_set7 kh (.int .i64 k1) (.int .i64 p1) (.int .i64 v1) (.int .i64 t1) (.int .i64 b1) (.bool wn1) (.int .i64 0))
        have KQ := Lib.hid (Bk.far7 kq (by omega : w.heap.size ≠ w.heap.size + 1) (.int .i64 k1) (.int .i64 p1) (.int .i64 v1) (.int .i64 t1) (.int .i64 b1) (.bool wn1) (.int .i64 0))
        have KR := Lib.hid (Bk.far7 kr (by omega : w.heap.size + 1 + 1 ≠ w.heap.size + 1) (.int .i64 k1) (.int .i64 p1) (.int .i64 v1) (.int .i64 t1) (.int .i64 b1) (.bool wn1) (.int .i64 0))
        have OV := Lib.hid (own_set7 o2 (by have := IJ.out.hb.lt; omega) (.int .i64 k1) (.int .i64 p1) (.int .i64 v1) (.int .i64 t1) (.int .i64 b1) (.bool wn1) (.int .i64 0))
        obtain ⟨V, hV⟩ : ∃ V, set7 w2 (w.heap.size + 1) (.int .i64 k1) (.int .i64 p1) (.int .i64 v1) (.int .i64 t1) (.int .i64 b1) (.bool wn1) (.int .i64 0) = V := ⟨_, rfl⟩
        rw [hV] at LV KV KQ KR OV
        unfold set7 at hV
        have HV := Lib.hid hV
        clear hV kh kq kr b2 o2
        go_wp2
        go_roundg kk
        case measure => omega
        case rel =>
          refine ⟨A2, c2, ms', ⟨k1, p1, v1, t1, b1, wn1, 0⟩, rfl, ?_⟩
          rw [HV.out]
          refine ⟨OV.out.ints, KQ.out, KV.out, KR.out, LV.out, HM.out, rfl, HFV.out, HSO.out, ?_, by rw [HLN.out]; exact IJ.out.ln⟩
          have h1 := IJ.out.pc
          have h3 : hj.pc < p1 := HON.out.resolve_left (by simp)
          have h4 : ((kk + 1 : Nat) : Int) = (kk : Int) + 1 := by omega
          show 8 ≤ (kk : Int) + p1
          omega
      · rw [solo_end kk (h := ⟨k1, p1, v1, t1, b1, wn1, s1⟩) hs1] at hso
        subst hso
        have hb1 : (s1 != 0) = true := by simpa using hs1
        clear hst0 hs1
        go_wp2_with fail
        refine HST.out.mono ?_
        rintro e w2 ⟨A2, c2, rfl, o2, b2⟩
        clear HST q0 q1 q2 q3 q4 q5 q6 l1 c0 c1' l0 l2
        simp only [hv]
        have kh := IJ.out.hb.below b2 IJ.out.hb.lt
        have kq := IJ.out.q.below b2 IJ.out.q.lt
        have kr := IJ.out.r.below b2 IJ.out.r.lt
        obtain ⟨q0, q1, q2, q3, q4, q5, q6⟩ := kh.c7
        obtain ⟨f0, f1, f2, f3, f4, f5, f6⟩ := kh.f7
        have l1 := kh.lt
        have LV := Lib.hid (below_set7 (below3 IJ.out.bl b2 (by have := IJ.out.bl.size; omega)) (by omega : w.heap.size ≤ w.heap.size + 1) (.int .i64 k1) (.int .i64 p1) (.int .i64 v1) (.int .i64 t1) (.int .i64 b1) (.bool wn1) (.int .i64 s1))
        have KV := Lib.hid (bk_set7 kh (.int .i64 k1) (.int .i64 p1) (.int .i64 v1) (.int .i64 t1) (.int .i64 b1) (.bool wn1) (.int .i64 s1))
        have KQ := Lib.hid (Bk.far7 kq (by omega : w.heap.size ≠ w.heap.size + 1) (.int .i64 k1) (.int .i64 p1) (.int .i64 v1) (.int .i64 t1) (.int .i64 b1) (.bool wn1) (.int .i64 s1))
        have KR := Lib.hid (Bk.far7 kr (by omega : w.heap.size + 1 + 1 ≠ w.heap.size + 1) (.int .i64 k1) (.int .i64 p1) (.int .i64 v1) (.int .i64 t1) (.int .i64 b1) (.bool wn1) (.int .i64 s1))
        have OV := Lib.hid (own_set7 o2 (by have := IJ.out.hb.lt; omega) (.int .i64 k1) (.int .i64 p1) (.int .i64 v1) (.int .i64 t1) (.int .i64 b1) (.bool wn1) (.int .i64 s1))
        obtain ⟨V, hV⟩ : ∃ V, set7 w2 (w.heap.size + 1) (.int .i64 k1) (.int .i64 p1) (.int .i64 v1) (.int .i64 t1) (.int .i64 b1) (.bool wn1) (.int .i64 s1) = V := ⟨_, rfl⟩
        rw [hV] at LV KV KQ KR OV
        unfold set7 at hV
        have HV := Lib.hid hV
        clear hV kh kq kr b2 o2
        go_wp2
        rw [HV.out]
        clear HV q0 q1 q2 q3 q4 q5 q6 f0 f1 f2 f3 f4 f5 f6 l1
        obtain ⟨u0, u1, u2, u3, u4, u5, u6⟩ := KV.out.c7
        obtain ⟨q0, q1, q2, q3, q4, q5, q6⟩ := KR.out.c7
        obtain ⟨f0, f1, f2, f3, f4, f5, f6⟩ := KR.out.f7
        have l1 := KV.out.lt
        have l2 := KR.out.lt
        have hgs : w.heap.size + 1 + 1 < wr.heap.size := IJ.out.r.lt
        have B2 := Lib.hid (below_set7 LV.out (by omega : w.heap.size ≤ w.heap.size + 1 + 1) (.int .i64 k1) (.int .i64 p1) (.int .i64 v1) (.int .i64 t1) (.int .i64 b1) (.bool wn1) (.int .i64 s1)).drew
        have K2 := Lib.hid (bk_set7 KR.out (.int .i64 k1) (.int .i64 p1) (.int .i64 v1) (.int .i64 t1) (.int .i64 b1) (.bool wn1) (.int .i64 s1)).drew
        have O2 := Lib.hid ((own_set7 OV.out hgs (.int .i64 k1) (.int .i64 p1) (.int .i64 v1) (.int .i64 t1) (.int .i64 b1) (.bool wn1) (.int .i64 s1)).below (Below.refl _ _).drew)
        have hS1 := Lib.hid (Bk.far7 KV.out (by omega : w.heap.size + 1 ≠ w.heap.size + 1 + 1) (.int .i64 k1) (.int .i64 p1) (.int .i64 v1) (.int .i64 t1) (.int .i64 b1) (.bool wn1) (.int .i64 s1)).drew
        unfold set7 at hS1
        clear u0 u1 u2 u3 u4 u5 u6
        refine wp_region_held (S := fun U => Bk U (w.heap.size + 1) 36 #[.int .i64 k1, .int .i64 p1, .int .i64 v1, .int .i64 t1, .int .i64 b1, .bool wn1, .int .i64 s1]) (by kernel_rfl) ?_
        change wpAnyH _ _ _ _ _ _ _ _ (World.drew _)
        have hS0 := KV.out.drew
        refine take_at (i := 0) (d := 25) (v := .slice A2 ms'.length c2) rfl rfl (by kernel_rfl) (by kernel_rfl) (by kernel_rfl) (fun _ _ _ h => h) (.inl ⟨by kernel_rfl, fun U hU => by go_simp⟩) hS0 ?_
        simp only [Act.put, List.setIfInBounds_toArray, List.set_cons_zero, List.set_cons_succ]
        refine take_at (i := 1) (d := 26) (v := .agg #[.int .i64 k1, .int .i64 p1, .int .i64 v1, .int .i64 t1, .int .i64 b1, .bool wn1, .int .i64 s1]) rfl rfl (by kernel_rfl) (by kernel_rfl) (by kernel_rfl) (fun _ _ _ h => h) (.inl ⟨by kernel_rfl, fun U hU => by obtain ⟨h0, h1, h2, h3, h4, h5, h6⟩ := hU.c7; go_simp⟩) hS0 ?_
        simp only [Act.put, List.setIfInBounds_toArray, List.set_cons_zero, List.set_cons_succ]
        refine take_at (i := 2) (d := 27) (v := .int .i64 0) rfl rfl (by kernel_rfl) (by kernel_rfl) (by kernel_rfl) (fun _ _ _ h => h) (.inl ⟨by kernel_rfl, fun U hU => by go_simp⟩) hS0 ?_
        simp only [Act.put, List.setIfInBounds_toArray, List.set_cons_zero, List.set_cons_succ]
        refine take_at (i := 3) (d := 6) (v := .slice A2 ms'.length c2) rfl rfl (by kernel_rfl) (by kernel_rfl) (by kernel_rfl) (fun _ _ _ h => h) (.inl ⟨by kernel_rfl, fun U hU => by go_simp⟩) hS0 ?_
        simp only [Act.put, List.setIfInBounds_toArray, List.set_cons_zero, List.set_cons_succ]
        refine wpAnyH_all (rs := [4]) (by kernel_rfl) (by simp) ?_
        intro i hi
        simp only [List.mem_cons, List.not_mem_nil, or_false] at hi
        subst hi
        unfold wpOp
        go_simp
        left
        refine ⟨hS1.out, ?_⟩
        refine take_at (i := 5) (d := 8) (v := .int .i64 0) rfl rfl (by kernel_rfl) (by kernel_rfl) (by kernel_rfl) (fun _ _ _ h => h) (.inl ⟨by kernel_rfl, fun U hU => by go_simp⟩) hS1.out ?_
        simp only [Act.put, List.setIfInBounds_toArray, List.set_cons_zero, List.set_cons_succ]
        refine wpAnyH_done (by kernel_rfl) ?_ _
        clear hS0
        go_wp2
        obtain ⟨r0, r1, r2, r3, r4, r5, r6⟩ := K2.out.c7
        unfold set7 at r0 r1 r2 r3 r4 r5 r6
        exact bodyPost_ret (v := .tuple #[.slice A2 ms'.length c2, .agg #[.int .i64 k1, .int .i64 p1, .int .i64 v1, .int .i64 t1, .int .i64 b1, .bool wn1, .int .i64 s1], .int .i64 0]) (by simp [results, Try.results21, go_sem, r0, r1, r2, r3, r4, r5, r6]) rfl ⟨A2, c2, rfl, O2.out.base (by omega), B2.out⟩

end Go.Proofs.Ythnphcfmpafhhaa

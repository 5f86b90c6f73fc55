/-
  The contracts of the program's Step in one form, of Start, and of Solo for a hand that is going (layer 7).
-/
import Derived.Test.YtfmiamjbhlglbaaSb
import Derived.Test.YtfmiamjbhlglbaaRgS
import Derived.Deep.LoopGhost
namespace Go.Proofs.Ytfmiamjbhlglbaa
open Go.RowKit Go.Maps

theorem fit_cell {ms : List Int} (h : ∀ z ∈ ms, Fit z) (i : Nat) : Fit (nth ms i) := by
  by_cases hi : i < ms.length
  · rw [nth_get hi]; exact h _ (List.getElem_mem hi)
  · rw [nth_beyond (by omega)]; exact fit0
section
variable {ms ms' : List Int} {base cap : Nat} {h h' : Hd}
/-- A hand's number goes into 64 bits. -/
theorem acc_fit (ha : accF ms base cap h = some (ms', h')) (hf : ∀ z ∈ ms, Fit z) (hv : Fit h.v) : Fit h'.v := by
  unfold accF at ha
  split at ha
  · unfold pushF at ha
    repeat' split at ha
    all_goals first
      | (cases ha; done)
      | (injection ha with ha; injection ha with _ ha; subst ha; exact hv)
  · split at ha
    · unfold popF at ha
      repeat' split at ha
      all_goals first
        | (cases ha; done)
        | (injection ha with ha; injection ha with _ ha; subst ha; first | exact hv | exact fit_cell hf _)
    · unfold stealF at ha
      repeat' split at ha
      all_goals first
        | (cases ha; done)
        | (injection ha with ha; injection ha with _ ha; subst ha; first | exact hv | exact fit_cell hf _)
end
theorem kind_fit {k : Int} (h : 0 < pcsF k) : Fit k := by rcases pcs_kind h with rfl | rfl | rfl <;> exact ⟨by omega, by omega⟩
theorem HdF.of_may {h : Hd} (hm : MayH h) (hv : Fit h.v) : HdF h :=
  ⟨kind_fit (Int.lt_of_le_of_lt hm.1 hm.2.1), ⟨by have := hm.1; omega, by have := pc_lt hm.2.1; omega⟩, hv, ⟨by have := hm.2.2.2.2.1; omega, by have := hm.2.2.2.2.2; omega⟩⟩

theorem step_any (A : Option Addr) (n c : Nat) (base cap : Int) (ms : List Int) (h : Hd) (w : World) (hx : Ints w A n ms) (fb : Fit base) (fc : Fit cap) (fh : HdF h) :
    Calls Try.prog 8 #[.slice A n c, .agg #[.int .i64 base, .int .i64 cap], hv h] w (StepOf (stepF ms base cap h) w) := by
  obtain rfl := hx.1
  obtain ⟨k, p, v, t, b, wn, s⟩ := h
  unfold stepF
  by_cases hb : MayH ⟨k, p, v, t, b, wn, s⟩ ∧ MayQ ms.length base cap
  · rw [if_pos hb]
    obtain ⟨hm, hq⟩ := hb
    by_cases hs : s = 0
    · subst hs
      rw [if_pos rfl]
      obtain ⟨bn, rfl⟩ : ∃ bn : Nat, base = bn := ⟨base.toNat, by have := hq.2.2.2.1; omega⟩
      obtain ⟨cn, rfl⟩ : ∃ cn : Nat, cap = cn := ⟨cap.toNat, by have := hq.2.1; omega⟩
      simp only [Int.toNat_natCast]
      cases ha : accF ms bn cn ⟨k, p, v, t, b, wn, 0⟩ with
      | none => exact step_no A c bn cn ms k p v t b wn w hx fh hm hq ha
      | some r => exact step_ok A c bn cn ms k p v t b wn w hx fh hm hq r.1 r.2 ha
    · rw [if_neg hs]
      exact step_state A _ c base cap ms k p v t b wn s w hx fb fc fh hm hq hs
  · rw [if_neg hb]
    exact step_err A _ c base cap ms k p v t b wn s w hx fb fc fh hb

theorem may_newk (k v : Int) : MayH (newH k v) ↔ 0 < pcsF k := by
  unfold MayH newH cntOk
  simp only
  constructor
  · intro h; exact h.2.1
  · intro h; exact ⟨by omega, h, by omega, by omega, by omega, by omega⟩

theorem start2_any (k v : Int) (w : World) (fk : Fit k) : Calls Try.prog 12 #[.int .i64 k, .int .i64 v] w
    (RetB (.tuple #[if 0 < pcsF k then hv (newH k v) else hv noH, .int .i64 (if 0 < pcsF k then 0 else 1)]) w) := by
  obtain ⟨k0, k1, bl⟩ := lies2 w #[.int .i64 0, .int .i64 0, .int .i64 0, .int .i64 0, .int .i64 0, .bool false, .int .i64 0] #[.int .i64 k, .int .i64 0, .int .i64 v, .int .i64 0, .int .i64 0, .bool false, .int .i64 0] 27 27
  have BL := Lib.hid bl
  have hn := next_any (newH k v)
  by_cases h1 : 0 < pcsF k
  all_goals
    have hm := may_newk k v
    first | rw [if_pos h1, if_pos h1] | rw [if_neg h1, if_neg h1]
    have K0 := Lib.hid k0
    have K1 := Lib.hid k1
    obtain ⟨q0, q1, q2, q3, q4, q5, q6⟩ := k1.c7
    have l1 := k1.lt
    have FK := Lib.hid fk
    first | have HN := Lib.hid (fun w' => if_pos (hm.2 h1) ▸ hn w' fk fit0) | have HN := Lib.hid (fun w' => if_neg (fun q => h1 (hm.1 q)) ▸ hn w' fk fit0)
    clear k0 k1 bl hn hm h1 fk
    first | unfold newH hv | unfold noH hv
    unfold newH hv at HN
    go_enter Try.func12, Try.ntmps12
    go_wp2_with fail
    refine (HN.out _).mono ?_
    rintro e w1 ⟨rfl, b1⟩
    have kr := K0.out.below b1 K0.out.lt
    have kh := K1.out.below b1 K1.out.lt
    have L1 := below3 BL.out b1
    clear b1 q0 q1 q2 q3 q4 q5 q6 l1
    obtain ⟨q0, q1, q2, q3, q4, q5, q6⟩ := kh.c7
    have l1 := kh.lt
    obtain ⟨p0, p1, p2, p3, p4, p5, p6⟩ := kr.c7
    obtain ⟨f0, f1, f2, f3, f4, f5, f6⟩ := kr.f7
    have l0 := kr.lt
  · have B2 := Lib.hid (below_set7 L1 (Nat.le_refl _) (.int .i64 k) (.int .i64 0) (.int .i64 v) (.int .i64 0) (.int .i64 0) (.bool false) (.int .i64 0))
    have K2 := Lib.hid (bk_set7 kr (.int .i64 k) (.int .i64 0) (.int .i64 v) (.int .i64 0) (.int .i64 0) (.bool false) (.int .i64 0))
    clear L1 kr kh
    go_wp2
    obtain ⟨r0, r1, r2, r3, r4, r5, r6⟩ := K2.out.c7
    unfold set7 at r0 r1 r2 r3 r4 r5 r6
    exact bodyPost_ret (v := .tuple #[.agg #[.int .i64 k, .int .i64 0, .int .i64 v, .int .i64 0, .int .i64 0, .bool false, .int .i64 0], .int .i64 0]) (by simp [results, Try.results12, go_sem, r0, r1, r2, r3, r4, r5, r6]) rfl ⟨rfl, B2.out⟩
  · have B2 := Lib.hid (below_set7 L1 (Nat.le_refl _) (.int .i64 0) (.int .i64 0) (.int .i64 0) (.int .i64 0) (.int .i64 0) (.bool false) (.int .i64 0))
    have K2 := Lib.hid (bk_set7 kr (.int .i64 0) (.int .i64 0) (.int .i64 0) (.int .i64 0) (.int .i64 0) (.bool false) (.int .i64 0))
    clear L1 kr kh
    go_wp2
    obtain ⟨r0, r1, r2, r3, r4, r5, r6⟩ := K2.out.c7
    unfold set7 at r0 r1 r2 r3 r4 r5 r6
    exact bodyPost_ret (v := .tuple #[.agg #[.int .i64 0, .int .i64 0, .int .i64 0, .int .i64 0, .int .i64 0, .bool false, .int .i64 0], .int .i64 1]) (by simp [results, Try.results12, go_sem, r0, r1, r2, r3, r4, r5, r6]) rfl ⟨rfl, B2.out⟩

/-- What Solo comes to. -/
def soloR (o : Option (List Int × Hd)) : Int × List Int × Hd := match o with | none => (9, [], noH) | some r => (0, r.1, r.2)
/-- The round of Solo: the boxes and the cells. -/
structure SoI (W : World) (w : World) (bn cn : Nat) (A : Option Addr) (c : Nat) (ms : List Int) (h : Hd) : Prop where
  own : OwnI 2 W (w.heap.size + 1 + 1 + 1) A c ms
  q : Bk W w.heap.size 25 #[.int .i64 bn, .int .i64 cn]
  hb : Bk W (w.heap.size + 1) 27 (hc h)
  r : Bk W (w.heap.size + 1 + 1) 27 #[.int .i64 0, .int .i64 0, .int .i64 0, .int .i64 0, .int .i64 0, .bool false, .int .i64 0]
  bl : Below w.heap.size w W
/-- What is still to come, or the error. -/
def SoFin (bn cn : Nat) (o : Option (List Int × Hd)) (len k : Nat) (y : Int) (ms : List Int) (h : Hd) : Prop :=
  (y = 0 ∧ MayH h ∧ Fit h.v ∧ soloF bn cn k ms h = o ∧ (h.state = 0 → 8 ≤ (k : Int) + h.pc) ∧ ms.length = len) ∨ (y = 9 ∧ ms = [] ∧ h = noH ∧ o = none)
def SoRel (w : World) (bn cn : Nat) (o : Option (List Int × Hd)) (len k : Nat) (t s : Value) (W : World) : Prop :=
  ∃ A c ms h y, t = .slice A ms.length c ∧ s = .int .i64 y ∧ SoI W w bn cn A c ms h ∧ SoFin bn cn o len k y ms h

theorem Bk.far7 {W : World} {g g' : Nat} {t : TypeId} {cs : Array Value} (h : Bk W g t cs) (hne : g ≠ g') (v0 v1 v2 v3 v4 v5 v6 : Value) : Bk (set7 W g' v0 v1 v2 v3 v4 v5 v6) g t cs :=
  ((((((h.far (p := ⟨g', 0, none⟩) hne v0).far (p := ⟨g', 1, none⟩) hne v1).far (p := ⟨g', 2, none⟩) hne v2).far (p := ⟨g', 3, none⟩) hne v3).far (p := ⟨g', 4, none⟩) hne v4).far (p := ⟨g', 5, none⟩) hne v5).far (p := ⟨g', 6, none⟩) hne v6

set_option maxHeartbeats 2000000 in
theorem solo_may (A : Option Addr) (c : Nat) (bn cn : Nat) (ms : List Int) (h : Hd) (w : World) (hx : Ints w A ms.length ms) (hv' : Fit h.v) (hm : MayH h) (hq : MayQ ms.length bn cn) (o : Option (List Int × Hd)) (ho : soloF bn cn 8 ms h = o) :
    Calls Try.prog 10 #[.slice A ms.length c, .agg #[.int .i64 bn, .int .i64 cn], hv h] w (StepOf (soloR o) w) := by
  have FB := Lib.hid (⟨by omega, by have := hq.2.2.2.2.1; have := hq.1; omega⟩ : Fit (bn : Int))
  have FC := Lib.hid (⟨by omega, by have := hq.2.2.1; omega⟩ : Fit (cn : Int))
  obtain ⟨hbx, hbl⟩ := box3 w (bn : Int) (cn : Int) h
  obtain ⟨W, hW⟩ : ∃ W, (((w.alloc (.cells #[.int .i64 bn, .int .i64 cn] 25)).alloc (.cells (hc h) 27)).alloc (.cells z7 27)) = W := ⟨_, rfl⟩
  rw [hW] at hbx hbl
  have HN : Hid (ms.length ≤ 9223372036854775807) := Lib.hid (by have := hx.2.1; omega)
  have HQ := Lib.hid hq
  have HM := Lib.hid hm
  have HF := Lib.hid (HdF.of_may hm hv')
  have HX := Lib.hid (hx.below hbl)
  have HO := Lib.hid ho
  have BX := Lib.hid hbx
  have BL := Lib.hid hbl
  have HVV := Lib.hid hv'
  unfold hc z7 at hW
  have HW := Lib.hid hW
  obtain ⟨q0, q1, q2, q3, q4, q5, q6⟩ := hbx.h.c7
  have c0 : _ = some (Value.int .i64 bn) := hbx.q.cell 0
  have c1' : _ = some (Value.int .i64 cn) := hbx.q.cell 1
  have lq := hbx.q.lt
  have lh := hbx.h.lt
  clear hW hbx hbl hx hv' hm ho hq
  unfold hv
  go_enter Try.func10, Try.ntmps10
  go_upto_region 1 with fail
  rw [HW.out]
  clear HW
  go_wp2_with fail
  refine (nextin_ok A ms.length c bn cn h.kind h.pc h.v h.t h.b h.won h.state _ HN.out FB.out FC.out HF.out HQ.out HM.out).mono ?_
  obtain ⟨fv, hfv⟩ : ∃ fv, lkV (tblF h.kind h.pc) = fv := ⟨_, rfl⟩
  rw [hfv]
  rintro e w1 ⟨rfl, b1⟩
  have X1 := Lib.hid (BX.out.below b1)
  have HX1 := Lib.hid (HX.out.below b1)
  have L1 := Lib.hid (below3 BL.out b1)
  clear b1 c0 c1' lq lh q0 q1 q2 q3 q4 q5 q6 hfv BX HX BL
  go_wp2_with fail
  refine (clone_any A ms.length c ms _ HX1.out).mono ?_
  rintro e w2 ⟨A0, c2, rfl, o2, b2⟩
  have X2 := X1.out.below b2
  have I0 := Lib.hid (⟨o2.base (by have := X1.out.r.lt; omega), X2.q, X2.h, X2.r, below3 L1.out b2⟩ : SoI w2 w bn cn A0 c2 ms h)
  clear b2 X1 X2 HX1 L1 o2
  go_wp2
  go_loopg [0, 10] 8 (fun k t s wr => SoRel w bn cn o ms.length k t s wr)
  case atStart => exact ⟨A0, c2, ms, h, 0, rfl, rfl, I0.out, .inl ⟨rfl, HM.out, HVV.out, HO.out, fun _ => by have := HM.out.1; omega, rfl⟩⟩
  case round =>
    obtain ⟨A1, c1, msj, hj, y, rfl, rfl, ij, fin⟩ := hrel
    have IJ := Lib.hid ij
    obtain ⟨k0, p0, v0, t0, b0, wn0, s0⟩ := hj
    obtain ⟨q0, q1, q2, q3, q4, q5, q6⟩ := ij.hb.c7
    have c0 : _ = some (Value.int .i64 bn) := ij.q.cell 0
    have c1' : _ = some (Value.int .i64 cn) := ij.q.cell 1
    have l0 := ij.q.lt
    have l1 := ij.hb.lt
    have l2 := ij.r.lt
    simp only at q0 q1 q2 q3 q4 q5 q6
    rcases fin with ⟨rfl, may, fvv, so, pc, ln⟩ | ⟨rfl, hms, hh, ho⟩
    · by_cases hs0 : s0 = 0
      · subst hs0
        have hst := step_any A1 msj.length c1 bn cn msj ⟨k0, p0, v0, t0, b0, wn0, 0⟩ wr ij.own.ints FB.out FC.out (HdF.of_may may fvv)
        unfold hv at hst
        have hsf : stepF msj bn cn ⟨k0, p0, v0, t0, b0, wn0, 0⟩ = (match accF msj bn cn ⟨k0, p0, v0, t0, b0, wn0, 0⟩ with | none => (9, [], noH) | some r => (0, r.1, r.2)) := by
          unfold stepF
          rw [if_pos ⟨may, by rw [ln]; exact HQ.out⟩, if_pos rfl, Int.toNat_natCast, Int.toNat_natCast]
          rfl
        rw [hsf] at hst
        have pc0 := pc rfl
        simp only at pc0
        have hk1 : 1 ≤ gk := by have := pc_lt may.2.1; simp only at this; omega
        obtain ⟨f0, f1, f2, f3, f4, f5, f6⟩ := ij.hb.f7
        have PC := Lib.hid pc0
        have MAY := Lib.hid may
        have FVV := Lib.hid fvv
        have LN := Lib.hid ln
        clear ij hsf pc pc0 may fvv ln
        obtain ⟨kk, rfl⟩ : ∃ kk, gk = kk + 1 := ⟨gk - 1, by omega⟩
        cases ha : accF msj bn cn ⟨k0, p0, v0, t0, b0, wn0, 0⟩ with
        | none =>
          rw [ha] at hst
          rw [solo_no kk rfl ha] at so
          have HST := Lib.hid hst
          have SO := Lib.hid so
          clear hst so ha hk1
          go_wp2_with fail
          refine HST.out.mono ?_
          rintro e w2 ⟨A2, c2, rfl, o2, b2⟩
          clear HST q0 q1 q2 q3 q4 q5 q6 l1 c0 c1' l0 l2 f0 f1 f2 f3 f4 f5 f6
          simp only [List.length_nil, noH, hv]
          have kh := IJ.out.hb.below b2 IJ.out.hb.lt
          have kq := IJ.out.q.below b2 IJ.out.q.lt
          have kr := IJ.out.r.below b2 IJ.out.r.lt
          obtain ⟨q0, q1, q2, q3, q4, q5, q6⟩ := kh.c7
          obtain ⟨f0, f1, f2, f3, f4, f5, f6⟩ := kh.f7
          have l1 := kh.lt
          have LV := Lib.hid (below_set7 (below3 IJ.out.bl b2 (by have := IJ.out.bl.size; omega)) (by omega : w.heap.size ≤ w.heap.size + 1) (.int .i64 0) (.int .i64 0) (.int .i64 0) (.int .i64 0) (.int .i64 0) (.bool false) (.int .i64 0))
          have KV := Lib.hid (bk_set7 kh (.int .i64 0) (.int .i64 0) (.int .i64 0) (.int .i64 0) (.int .i64 0) (.bool false) (.int .i64 0))
          have KQ := Lib.hid (Bk.far7 kq (by omega : w.heap.size ≠ w.heap.size + 1) (.int .i64 0) (.int .i64 0) (.int .i64 0) (.int .i64 0) (.int .i64 0) (.bool false) (.int .i64 0))
          have KR := Lib.hid (Bk.far7 kr (by omega : w.heap.size + 1 + 1 ≠ w.heap.size + 1) (.int .i64 0) (.int .i64 0) (.int .i64 0) (.int .i64 0) (.int .i64 0) (.bool false) (.int .i64 0))
          have OV := Lib.hid (own_set7 o2 (by have := IJ.out.hb.lt; omega) (.int .i64 0) (.int .i64 0) (.int .i64 0) (.int .i64 0) (.int .i64 0) (.bool false) (.int .i64 0))
          obtain ⟨V, hV⟩ : ∃ V, set7 w2 (w.heap.size + 1) (.int .i64 0) (.int .i64 0) (.int .i64 0) (.int .i64 0) (.int .i64 0) (.bool false) (.int .i64 0) = V := ⟨_, rfl⟩
          rw [hV] at LV KV KQ KR OV
          unfold set7 at hV
          have HV := Lib.hid hV
          clear hV kh kq kr b2 o2
          go_wp2
          go_roundg kk
          case measure => omega
          case rel =>
            refine ⟨A2, c2, [], noH, 9, rfl, rfl, ?_, .inr ⟨rfl, rfl, rfl, SO.out.symm⟩⟩
            rw [HV.out]
            exact ⟨OV.out.base (by have := IJ.out.r.lt; omega), KQ.out, KV.out, KR.out, LV.out⟩
        | some z =>
          obtain ⟨ms', h'⟩ := z
          rw [ha] at hst
          have hmay := (acc_may MAY.out ha).1
          have hfv := acc_fit ha IJ.out.own.ints.2.2.1 FVV.out
          have hon := acc_on ha
          have hln := acc_len ha
          rw [solo_on kk rfl ha] at so
          have HST := Lib.hid hst
          obtain ⟨k1, p1, v1, t1, b1, wn1, s1⟩ := h'
          have HM := Lib.hid hmay
          have HFV := Lib.hid hfv
          have HON := Lib.hid hon
          have HLN := Lib.hid hln
          have SO := Lib.hid so
          clear hst so ha hk1 hmay hfv hon hln
          go_wp2_with fail
          refine HST.out.mono ?_
          rintro e w2 ⟨A2, c2, rfl, o2, b2⟩
          clear HST q0 q1 q2 q3 q4 q5 q6 l1 c0 c1' l0 l2 f0 f1 f2 f3 f4 f5 f6
          simp only [hv]
          have kh := IJ.out.hb.below b2 IJ.out.hb.lt
          have kq := IJ.out.q.below b2 IJ.out.q.lt
          have kr := IJ.out.r.below b2 IJ.out.r.lt
          obtain ⟨q0, q1, q2, q3, q4, q5, q6⟩ := kh.c7
          obtain ⟨f0, f1, f2, f3, f4, f5, f6⟩ := kh.f7
          have l1 := kh.lt
          have LV := Lib.hid (below_set7 (below3 IJ.out.bl b2 (by have := IJ.out.bl.size; omega)) (by omega : w.heap.size ≤ w.heap.size + 1) (.int .i64 k1) (.int .i64 p1) (.int .i64 v1) (.int .i64 t1) (.int .i64 b1) (.bool wn1) (.int .i64 s1))
          have KV := Lib.hid (bk_set7 kh (.int .i64 k1) (.int .i64 p1) (.int .i64 v1) (.int .i64 t1) (.int .i64 b1) (.bool wn1) (.int .i64 s1))
          have KQ := Lib.hid (Bk.far7 kq (by omega : w.heap.size ≠ w.heap.size + 1) (.int .i64 k1) (.int .i64 p1) (.int .i64 v1) (.int .i64 t1) (.int .i64 b1) (.bool wn1) (.int .i64 s1))
          have KR := Lib.hid (Bk.far7 kr (by omega : w.heap.size + 1 + 1 ≠ w.heap.size + 1) (.int .i64 k1) (.int .i64 p1) (.int .i64 v1) (.int .i64 t1) (.int .i64 b1) (.bool wn1) (.int .i64 s1))
          have OV := Lib.hid (own_set7 o2 (by have := IJ.out.hb.lt; omega) (.int .i64 k1) (.int .i64 p1) (.int .i64 v1) (.int .i64 t1) (.int .i64 b1) (.bool wn1) (.int .i64 s1))
          obtain ⟨V, hV⟩ : ∃ V, set7 w2 (w.heap.size + 1) (.int .i64 k1) (.int .i64 p1) (.int .i64 v1) (.int .i64 t1) (.int .i64 b1) (.bool wn1) (.int .i64 s1) = V := ⟨_, rfl⟩
          rw [hV] at LV KV KQ KR OV
          unfold set7 at hV
          have HV := Lib.hid hV
          clear hV kh kq kr b2 o2
          go_wp2
          go_roundg kk
          case measure => omega
          case rel =>
            refine ⟨A2, c2, ms', ⟨k1, p1, v1, t1, b1, wn1, s1⟩, 0, rfl, rfl, ?_, .inl ⟨rfl, HM.out, HFV.out, SO.out, ?_, by rw [HLN.out]; exact LN.out⟩⟩
            · rw [HV.out]
              exact ⟨OV.out.base (by have := IJ.out.r.lt; omega), KQ.out, KV.out, KR.out, LV.out⟩
            · intro hs1
              simp only at hs1
              have h1 := PC.out
              have h3 : p0 < p1 := HON.out.resolve_left (by simpa using hs1)
              have h4 : ((kk + 1 : Nat) : Int) = (kk : Int) + 1 := by omega
              show 8 ≤ (kk : Int) + p1
              omega
      · rw [solo_end gk (h := ⟨k0, p0, v0, t0, b0, wn0, s0⟩) hs0] at so
        subst so
        have hb1 : (s0 == 0) = false := by simpa using hs0
        clear may fvv pc ln hs0 ij
        obtain ⟨r0, r1, r2, r3, r4, r5, r6⟩ := IJ.out.r.c7
        obtain ⟨f0, f1, f2, f3, f4, f5, f6⟩ := IJ.out.r.f7
        have B2 := Lib.hid (below_set7 IJ.out.bl (by omega : w.heap.size ≤ w.heap.size + 1 + 1) (.int .i64 k0) (.int .i64 p0) (.int .i64 v0) (.int .i64 t0) (.int .i64 b0) (.bool wn0) (.int .i64 s0)).drew
        have K2 := Lib.hid (bk_set7 IJ.out.r (.int .i64 k0) (.int .i64 p0) (.int .i64 v0) (.int .i64 t0) (.int .i64 b0) (.bool wn0) (.int .i64 s0)).drew
        have O2 := Lib.hid ((own_set7 IJ.out.own (by omega : w.heap.size + 1 + 1 < w.heap.size + 1 + 1 + 1) (.int .i64 k0) (.int .i64 p0) (.int .i64 v0) (.int .i64 t0) (.int .i64 b0) (.bool wn0) (.int .i64 s0)).below (Below.refl _ _).drew)
        go_wp2
        have hS1 := Lib.hid (Bk.far7 IJ.out.hb (by omega : w.heap.size + 1 ≠ w.heap.size + 1 + 1) (.int .i64 k0) (.int .i64 p0) (.int .i64 v0) (.int .i64 t0) (.int .i64 b0) (.bool wn0) (.int .i64 s0)).drew
        unfold set7 at hS1
        simp only [hc] at hS1
        refine wp_region_held (S := fun U => Bk U (w.heap.size + 1) 27 #[.int .i64 k0, .int .i64 p0, .int .i64 v0, .int .i64 t0, .int .i64 b0, .bool wn0, .int .i64 s0]) (by kernel_rfl) ?_
        change wpAnyH _ _ _ _ _ _ _ _ (World.drew _)
        have hS0 := IJ.out.hb.drew
        simp only [hc] at hS0
        refine take_at (i := 0) (d := 39) (v := .slice A1 msj.length c1) rfl rfl (by kernel_rfl) (by kernel_rfl) (by kernel_rfl) (fun _ _ _ h => h) (.inl ⟨by kernel_rfl, fun U hU => by go_simp⟩) hS0 ?_
        simp only [Act.put, List.setIfInBounds_toArray, List.set_cons_zero, List.set_cons_succ]
        refine take_at (i := 1) (d := 40) (v := .agg #[.int .i64 k0, .int .i64 p0, .int .i64 v0, .int .i64 t0, .int .i64 b0, .bool wn0, .int .i64 s0]) rfl rfl (by kernel_rfl) (by kernel_rfl) (by kernel_rfl) (fun _ _ _ h => h) (.inl ⟨by kernel_rfl, fun U hU => by obtain ⟨h0, h1, h2, h3, h4, h5, h6⟩ := hU.c7; go_simp⟩) hS0 ?_
        simp only [Act.put, List.setIfInBounds_toArray, List.set_cons_zero, List.set_cons_succ]
        refine take_at (i := 2) (d := 41) (v := .int .i64 0) rfl rfl (by kernel_rfl) (by kernel_rfl) (by kernel_rfl) (fun _ _ _ h => h) (.inl ⟨by kernel_rfl, fun U hU => by go_simp⟩) hS0 ?_
        simp only [Act.put, List.setIfInBounds_toArray, List.set_cons_zero, List.set_cons_succ]
        refine take_at (i := 3) (d := 6) (v := .slice A1 msj.length c1) rfl rfl (by kernel_rfl) (by kernel_rfl) (by kernel_rfl) (fun _ _ _ h => h) (.inl ⟨by kernel_rfl, fun U hU => by go_simp⟩) hS0 ?_
        simp only [Act.put, List.setIfInBounds_toArray, List.set_cons_zero, List.set_cons_succ]
        refine wpAnyH_all (rs := [4]) (by kernel_rfl) (by simp) ?_
        intro i hi
        simp only [List.mem_cons, List.not_mem_nil, or_false] at hi
        subst hi
        unfold wpOp
        go_simp
        left
        refine ⟨hS1.out, ?_⟩
        refine take_at (i := 5) (d := 8) (v := .int .i64 0) rfl rfl (by kernel_rfl) (by kernel_rfl) (by kernel_rfl) (fun _ _ _ h => h) (.inl ⟨by kernel_rfl, fun U hU => by go_simp⟩) hS1.out ?_
        simp only [Act.put, List.setIfInBounds_toArray, List.set_cons_zero, List.set_cons_succ]
        refine wpAnyH_done (by kernel_rfl) ?_ _
        clear hS0
        go_wp2
        clear r0 r1 r2 r3 r4 r5 r6
        obtain ⟨r0, r1, r2, r3, r4, r5, r6⟩ := K2.out.c7
        unfold set7 at r0 r1 r2 r3 r4 r5 r6
        exact bodyPost_ret (v := .tuple #[.slice A1 msj.length c1, .agg #[.int .i64 k0, .int .i64 p0, .int .i64 v0, .int .i64 t0, .int .i64 b0, .bool wn0, .int .i64 s0], .int .i64 0]) (by simp [results, Try.results10, go_sem, r0, r1, r2, r3, r4, r5, r6]) rfl ⟨A1, c1, rfl, O2.out.base (by omega), B2.out⟩
    · subst hms
      obtain ⟨rfl, rfl, rfl, rfl, rfl, rfl, rfl⟩ : k0 = 0 ∧ p0 = 0 ∧ v0 = 0 ∧ t0 = 0 ∧ b0 = 0 ∧ wn0 = false ∧ s0 = 0 := by
        unfold noH at hh
        injection hh with e0 e1 e2 e3 e4 e5 e6
        exact ⟨e0, e1, e2, e3, e4, e5, e6⟩
      subst ho
      clear hh ij
      obtain ⟨r0, r1, r2, r3, r4, r5, r6⟩ := IJ.out.r.c7
      obtain ⟨f0, f1, f2, f3, f4, f5, f6⟩ := IJ.out.r.f7
      have B2 := Lib.hid (below_set7 IJ.out.bl (by omega : w.heap.size ≤ w.heap.size + 1 + 1) (.int .i64 0) (.int .i64 0) (.int .i64 0) (.int .i64 0) (.int .i64 0) (.bool false) (.int .i64 0)).drew
      have K2 := Lib.hid (bk_set7 IJ.out.r (.int .i64 0) (.int .i64 0) (.int .i64 0) (.int .i64 0) (.int .i64 0) (.bool false) (.int .i64 0)).drew
      have O2 := Lib.hid ((own_set7 IJ.out.own (by omega : w.heap.size + 1 + 1 < w.heap.size + 1 + 1 + 1) (.int .i64 0) (.int .i64 0) (.int .i64 0) (.int .i64 0) (.int .i64 0) (.bool false) (.int .i64 0)).below (Below.refl _ _).drew)
      go_wp2
      have hS1 := Lib.hid (Bk.far7 IJ.out.hb (by omega : w.heap.size + 1 ≠ w.heap.size + 1 + 1) (.int .i64 0) (.int .i64 0) (.int .i64 0) (.int .i64 0) (.int .i64 0) (.bool false) (.int .i64 0)).drew
      unfold set7 at hS1
      simp only [hc] at hS1
      refine wp_region_held (S := fun U => Bk U (w.heap.size + 1) 27 #[.int .i64 0, .int .i64 0, .int .i64 0, .int .i64 0, .int .i64 0, .bool false, .int .i64 0]) (by kernel_rfl) ?_
      change wpAnyH _ _ _ _ _ _ _ _ (World.drew _)
      have hS0 := IJ.out.hb.drew
      simp only [hc] at hS0
      refine take_at (i := 0) (d := 39) (v := .slice A1 0 c1) rfl rfl (by kernel_rfl) (by kernel_rfl) (by kernel_rfl) (fun _ _ _ h => h) (.inl ⟨by kernel_rfl, fun U hU => by go_simp⟩) hS0 ?_
      simp only [Act.put, List.setIfInBounds_toArray, List.set_cons_zero, List.set_cons_succ]
      refine take_at (i := 1) (d := 40) (v := .agg #[.int .i64 0, .int .i64 0, .int .i64 0, .int .i64 0, .int .i64 0, .bool false, .int .i64 0]) rfl rfl (by kernel_rfl) (by kernel_rfl) (by kernel_rfl) (fun _ _ _ h => h) (.inl ⟨by kernel_rfl, fun U hU => by obtain ⟨h0, h1, h2, h3, h4, h5, h6⟩ := hU.c7; go_simp⟩) hS0 ?_
      simp only [Act.put, List.setIfInBounds_toArray, List.set_cons_zero, List.set_cons_succ]
      refine take_at (i := 2) (d := 41) (v := .int .i64 9) rfl rfl (by kernel_rfl) (by kernel_rfl) (by kernel_rfl) (fun _ _ _ h => h) (.inl ⟨by kernel_rfl, fun U hU => by go_simp⟩) hS0 ?_
      simp only [Act.put, List.setIfInBounds_toArray, List.set_cons_zero, List.set_cons_succ]
      refine take_at (i := 3) (d := 6) (v := .slice A1 0 c1) rfl rfl (by kernel_rfl) (by kernel_rfl) (by kernel_rfl) (fun _ _ _ h => h) (.inl ⟨by kernel_rfl, fun U hU => by go_simp⟩) hS0 ?_
      simp only [Act.put, List.setIfInBounds_toArray, List.set_cons_zero, List.set_cons_succ]
      refine wpAnyH_all (rs := [4]) (by kernel_rfl) (by simp) ?_
      intro i hi
      simp only [List.mem_cons, List.not_mem_nil, or_false] at hi
      subst hi
      unfold wpOp
      go_simp
      left
      refine ⟨hS1.out, ?_⟩
      refine take_at (i := 5) (d := 8) (v := .int .i64 9) rfl rfl (by kernel_rfl) (by kernel_rfl) (by kernel_rfl) (fun _ _ _ h => h) (.inl ⟨by kernel_rfl, fun U hU => by go_simp⟩) hS1.out ?_
      simp only [Act.put, List.setIfInBounds_toArray, List.set_cons_zero, List.set_cons_succ]
      refine wpAnyH_done (by kernel_rfl) ?_ _
      clear hS0
      go_wp2
      clear r0 r1 r2 r3 r4 r5 r6
      obtain ⟨r0, r1, r2, r3, r4, r5, r6⟩ := K2.out.c7
      unfold set7 at r0 r1 r2 r3 r4 r5 r6
      exact bodyPost_ret (v := .tuple #[.slice A1 0 c1, .agg #[.int .i64 0, .int .i64 0, .int .i64 0, .int .i64 0, .int .i64 0, .bool false, .int .i64 0], .int .i64 9]) (by simp [results, Try.results10, go_sem, r0, r1, r2, r3, r4, r5, r6]) rfl ⟨A1, c1, rfl, O2.out.base (by omega), B2.out⟩

set_option maxHeartbeats 1000000 in
theorem solo_bad (A : Option Addr) (n c : Nat) (base cap : Int) (ms : List Int) (k p v t b : Int) (wn : Bool) (s : Int) (w : World) (hx : Ints w A n ms) (fb : Fit base) (fc : Fit cap) (fh : HdF ⟨k, p, v, t, b, wn, s⟩) (hno : ¬ (MayH ⟨k, p, v, t, b, wn, s⟩ ∧ MayQ n base cap)) :
    Calls Try.prog 10 #[.slice A n c, .agg #[.int .i64 base, .int .i64 cap], hv ⟨k, p, v, t, b, wn, s⟩] w (StepOf (1, [], noH) w) := by
  have HN : Hid (n ≤ 9223372036854775807) := Lib.hid (by have := hx.2.1; omega)
  have FB := Lib.hid fb
  have FC := Lib.hid fc
  have HX := Lib.hid hx
  clear fb fc hx
  have hbx := box3 w base cap ⟨k, p, v, t, b, wn, s⟩
  obtain ⟨W, hW⟩ : ∃ W, (((w.alloc (.cells #[.int .i64 base, .int .i64 cap] 25)).alloc (.cells (hc ⟨k, p, v, t, b, wn, s⟩) 27)).alloc (.cells z7 27)) = W := ⟨_, rfl⟩
  rw [hW] at hbx
  obtain ⟨hbx, hbl⟩ := hbx
  unfold hc z7 at hW
  have HW := Lib.hid hW
  have BX := Lib.hid hbx
  have BL := Lib.hid hbl
  have FH := Lib.hid fh
  obtain ⟨q0, q1, q2, q3, q4, q5, q6⟩ := hbx.h.c7
  have hl1 := hbx.h.lt
  clear hW hbx hbl fh
  unfold hv
  go_enter Try.func10, Try.ntmps10
  go_upto_region 1 with fail
  rw [HW.out]
  clear HW
  have c0 : _ = some (Value.int .i64 base) := BX.out.q.cell 0
  have c1 : _ = some (Value.int .i64 cap) := BX.out.q.cell 1
  have lq := BX.out.q.lt
  go_wp2_with fail
  refine (nextin_no A n c base cap k p v t b wn s _ HN.out FB.out FC.out FH.out hno).mono ?_
  rintro e w2 ⟨rfl, b2⟩
  have X2 := BX.out.below b2
  have L2 := Lib.hid (below3 BL.out b2)
  clear b2 c0 c1 lq q0 q1 q2 q3 q4 q5 q6 hl1
  have kr : Bk w2 (w.heap.size + 1 + 1) 27 #[.int .i64 0, .int .i64 0, .int .i64 0, .int .i64 0, .int .i64 0, .bool false, .int .i64 0] := X2.r
  obtain ⟨p0, p1, p2, p3, p4, p5, p6⟩ := kr.c7
  obtain ⟨f0, f1, f2, f3, f4, f5, f6⟩ := kr.f7
  have lr := kr.lt
  have B2 := Lib.hid (below_set7 L2.out (by omega : w.heap.size ≤ w.heap.size + 1 + 1) (.int .i64 0) (.int .i64 0) (.int .i64 0) (.int .i64 0) (.int .i64 0) (.bool false) (.int .i64 0))
  have K2 := Lib.hid (bk_set7 kr (.int .i64 0) (.int .i64 0) (.int .i64 0) (.int .i64 0) (.int .i64 0) (.bool false) (.int .i64 0))
  clear kr X2
  go_wp2
  obtain ⟨r0, r1, r2, r3, r4, r5, r6⟩ := K2.out.c7
  unfold set7 at r0 r1 r2 r3 r4 r5 r6
  exact bodyPost_ret (v := .tuple #[.slice none 0 0, .agg #[.int .i64 0, .int .i64 0, .int .i64 0, .int .i64 0, .int .i64 0, .bool false, .int .i64 0], .int .i64 1]) (by simp [results, Try.results10, go_sem, r0, r1, r2, r3, r4, r5, r6]) rfl ⟨none, 0, rfl, OwnI.nil_ _ _ _, B2.out⟩

/-- What Solo comes to, of whatever there is. -/
def soloA (ms : List Int) (base cap : Int) (h : Hd) : Int × List Int × Hd :=
  if MayH h ∧ MayQ ms.length base cap then soloR (soloF base.toNat cap.toNat 8 ms h) else (1, [], noH)
theorem solo_any (A : Option Addr) (n c : Nat) (base cap : Int) (ms : List Int) (h : Hd) (w : World) (hx : Ints w A n ms) (fb : Fit base) (fc : Fit cap) (fh : HdF h) :
    Calls Try.prog 10 #[.slice A n c, .agg #[.int .i64 base, .int .i64 cap], hv h] w (StepOf (soloA ms base cap h) w) := by
  obtain rfl := hx.1
  unfold soloA
  by_cases hb : MayH h ∧ MayQ ms.length base cap
  · rw [if_pos hb]
    obtain ⟨hm, hq⟩ := hb
    obtain ⟨bn, rfl⟩ : ∃ bn : Nat, base = bn := ⟨base.toNat, by have := hq.2.2.2.1; omega⟩
    obtain ⟨cn, rfl⟩ : ∃ cn : Nat, cap = cn := ⟨cap.toNat, by have := hq.2.1; omega⟩
    simp only [Int.toNat_natCast]
    exact solo_may A c bn cn ms h w hx fh.v hm hq _ rfl
  · rw [if_neg hb]
    obtain ⟨k, p, v, t, b, wn, s⟩ := h
    exact solo_bad A _ c base cap ms k p v t b wn s w hx fb fc fh hb

end Go.Proofs.Ytfmiamjbhlglbaa

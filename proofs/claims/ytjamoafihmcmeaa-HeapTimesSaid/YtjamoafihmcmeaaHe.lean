/-
  Layer 8, the program: whether a heap may be; ids that were met are a set.
-/
import Derived.Test.YtjamoafihmcmeaaHd
import Derived.Maps.OwnSet
import Derived.Maps.Views
namespace Go.Proofs.Ytjamoafihmcmeaa
open Go.RowKit Go.Maps

theorem Try.lawI64 : Keyed Try.prog 2 := int_keyed Try.underlying2
theorem keyI64 {x : Int} (h : Fit x) : keyOf Try.prog 2 (.int .i64 x) = some (.int .i64 x) := keyOf_int_mk Try.underlying2 (wf_of_fit h)
theorem Try.zeroUnit (w : World) : (zeroValue 72).run Try.prog w = .ok (.agg #[]) w := by kernel_rfl

/-- In block b lies a set of just those numbers (n of them at the most). -/
def FSet (w : World) (b n : Nat) (f : Int → Bool) : Prop :=
  ∃ D : DataW Unit, w.ownsMap Try.prog 2 unitElem b n D ∧ ∀ x, Maps.has D (.int .i64 x) = f x
section
variable {w w' : World} {b n : Nat} {f : Int → Bool}
theorem FSet.made (w : World) : FSet (w.alloc (.map #[] 0)) w.heap.size 0 fun _ => false :=
  ⟨.map [], World.ownsMap_made w _ _ _, fun _ => rfl⟩
theorem FSet.below (h : FSet w b n f) (hb : Below w.heap.size w w') : FSet w' b n f := by
  obtain ⟨D, hD, hf⟩ := h
  exact ⟨D, hD.kept (row := none) ⟨hb.os, hb.tape, hb.output, hb.size, fun k hk _ => hb.block k hk⟩ (by simp), hf⟩
theorem FSet.lt (h : FSet w b n f) : b < w.heap.size := by obtain ⟨D, hD, _⟩ := h; exact hD.lt
theorem FSet.same {g : Int → Bool} (h : FSet w b n f) (e : ∀ y, f y = g y) : FSet w b n g := by
  obtain ⟨D, hD, hf⟩ := h
  exact ⟨D, hD, fun x => (hf x).trans (e x)⟩
theorem FSet.get (h : FSet w b n f) {x : Int} (hx : Fit x) : (Instr.lookup 71 (.map (some b)) (.int .i64 x) true).run Try.prog w = .ok (.tuple #[.agg #[], .bool (f x)]) w := by
  obtain ⟨D, hD, hf⟩ := h
  obtain ⟨v, ps, hrun, hv⟩ := hD.look_ok Try.lawI64 Try.underlying71 (Try.zeroUnit w) unitElem_mk (keyI64 hx)
  obtain ⟨rfl, _⟩ := unitElem_inv hv
  rw [hrun, hf x]
theorem FSet.put (h : FSet w b n f) {x : Int} (hx : Fit x) (hn : n < 1000) : ∃ w', (Instr.mapUpdate 71 (.map (some b)) (.int .i64 x) (.agg #[])).run Try.prog w = .ok () w' ∧ FSet w' b (n + 1) (fun y => if y = x then true else f y) ∧ w.grownBy w' (some b) := by
  obtain ⟨D, hD, hf⟩ := h
  obtain ⟨w', hrun, h1, h2⟩ := hD.update Try.lawI64 Try.underlying71 (by unfold maxLen; omega) (keyI64 hx) unitElem_mk
  refine ⟨w', hrun, ⟨_, h1, fun y => ?_⟩, h2⟩
  by_cases e : y = x
  · subst e
    rw [has_put_same hD.isMap (by trivial)]; simp
  · rw [has_put_other (by intro e'; injection e' with _ e'; exact e e'), hf y]; simp [e]
end

/-- What a round of Check reads: the timer's own box, the timer above. -/
structure ChS (V : World) (g bA a' : Nat) (x1 x2 y1 y2 : Int) : Prop where
  k : Bk V g 24 #[.int .i64 x1, .int .i64 x2]
  u : bA < V.heap.size ∧ V.cell? ⟨bA, a', none⟩ = some (.int .i64 y1) ∧ V.cell? ⟨bA, a' + 1, none⟩ = some (.int .i64 y2)
theorem ChS.tim {V U : World} {g bA a' : Nat} {x1 x2 y1 y2 : Int} (h : ChS V g bA a' x1 x2 y1 y2) (hU : Below V.heap.size V U) : U.cell? ⟨g, 0, none⟩ = some (.int .i64 x1) ∧ U.cell? ⟨g, 1, none⟩ = some (.int .i64 x2) :=
  ⟨(h.k.below hU h.k.lt).cell 0, (h.k.below hU h.k.lt).cell 1⟩
theorem ChS.lt {V U : World} {g bA a' : Nat} {x1 x2 y1 y2 : Int} (h : ChS V g bA a' x1 x2 y1 y2) (hU : Below V.heap.size V U) : g < U.heap.size := (h.k.below hU h.k.lt).lt
theorem ChS.up {V U : World} {g bA a' : Nat} {x1 x2 y1 y2 : Int} (h : ChS V g bA a' x1 x2 y1 y2) (hU : Below V.heap.size V U) : U.cell? ⟨bA, a', none⟩ = some (.int .i64 y1) ∧ U.cell? ⟨bA, a' + 1, none⟩ = some (.int .i64 y2) :=
  ⟨(hU.cell (p := ⟨bA, a', none⟩) h.u.1).trans h.u.2.1, (hU.cell (p := ⟨bA, a' + 1, none⟩) h.u.1).trans h.u.2.2⟩
def metF (l : List Tm) (k : Nat) (x : Int) : Bool := decide (∃ j, j < k ∧ jA l j = x)
theorem metF_next (l : List Tm) (k : Nat) (y : Int) : (if y = jA l k then true else metF l k y) = metF l (k + 1) y := by
  unfold metF
  split
  · rename_i h
    exact (decide_eq_true ⟨k, by omega, h.symm⟩).symm
  · rename_i h
    rw [decide_eq_decide]
    exact ⟨fun ⟨j, hj, e⟩ => ⟨j, by omega, e⟩, fun ⟨j, hj, e⟩ => ⟨j, by by_cases q : j = k; (subst q; exact absurd e.symm h); omega, e⟩⟩

set_option maxRecDepth 100000 in
set_option maxHeartbeats 4000000 in
theorem pcheck_any (A : Option Addr) (n c : Nat) (l : List Tm) (w : World) (hx : Tms w A n c l) :
    Calls Try.prog 26 #[.slice A n c] w (RetB (.int .i64 (if heapOk l then 0 else 1)) w) := by
  have HX := Lib.hid hx
  have LX := Lib.hid hx.1
  have hnc := hx.2.1
  obtain ⟨r, hr⟩ : ∃ r : Int, (if heapOk l then (0 : Int) else 1) = r := ⟨_, rfl⟩
  rw [hr]
  have HR := Lib.hid hr
  clear hx hr
  by_cases hn : 256 < n
  · have HNO : Hid (¬ heapOk l) := Lib.hid (fun q => by have := q.1; have := LX.out; omega)
    go_enter Try.func26, Try.ntmps26
    go_wp2_with fail
    go_ret
    exact ⟨by rw [← HR.out, if_neg HNO.out]; rfl, Below.refl _ _⟩
  · have F0 := Lib.hid ((FSet.made w).same (g := metF l 0) (fun y => by unfold metF; rw [eq_comm, decide_eq_false]; rintro ⟨j, hj, _⟩; omega))
    have B0 := Lib.hid ((Below.refl w.heap.size w).alloc (Nat.le_refl _) (.map #[] 0))
    have HMW := Lib.hid (Nat.le_refl w.heap.size)
    have mk : ∀ w, (Instr.makeMap 71 none).run Try.prog w = .ok (.map (some w.heap.size)) (w.alloc (.map #[] 0)) := fun w => rfl
    go_enter Try.func26, Try.ntmps26
    go_wp2_with fail
    go_loopw [14] (fun t wr => ∃ k : Nat, k ≤ n ∧ t = .int .i64 k ∧ Hid (OkTo l k) ∧ Hid (FSet wr w.heap.size k (metF l k)) ∧ Hid (Below w.heap.size w wr)) (fun t _ => n - (intOf t).toNat)
    case atStart => exact ⟨0, Nat.zero_le _, rfl, Lib.hid (fun i hi => absurd hi (Nat.not_lt_zero _)), F0, B0⟩
    case round =>
      clear F0 B0
      rename World => wr
      obtain ⟨k, hk, rfl, OKK, FS, BW⟩ := hrel
      by_cases hkn : k < n
      · obtain ⟨bA, oA, hA, hbA, c0, c1⟩ := (HX.out.below BW.out).at_ hkn
        obtain ⟨bB, oB, hB, hbB, d0, d1⟩ := (HX.out.below BW.out).at_ (j := par k) (by unfold par; omega)
        subst hA
        injection hB with hB
        injection hB with hB1 hB2
        subst hB1 hB2
        obtain ⟨fa, fb⟩ := HX.out.fit hkn
        have hkl : k < l.length := by rw [LX.out]; exact hkn
        obtain ⟨x1, hx1⟩ : ∃ z, jO l k = z := ⟨_, rfl⟩
        obtain ⟨x2, hx2⟩ : ∃ z, jA l k = z := ⟨_, rfl⟩
        obtain ⟨y1, hy1⟩ : ∃ z, jO l (par k) = z := ⟨_, rfl⟩
        obtain ⟨y2, hy2⟩ : ∃ z, jA l (par k) = z := ⟨_, rfl⟩
        have hz : ith l k = (x1, x2) := by rw [← hx1, ← hx2]; rfl
        have hzy : ith l (par k) = (y1, y2) := by rw [← hy1, ← hy2]; rfl
        rw [hx1] at c0 fa
        rw [hx2] at c1 fb
        rw [hy1] at d0
        rw [hy2] at d1
        have hok : okAt l k ↔ mayT (x1, x2) ∧ (0 < k → ¬ lessT (x1, x2) (y1, y2)) ∧ metF l k x2 = false := by
          unfold okAt metF
          rw [hz, show (k - 1) / 4 = par k from rfl, hzy, hx2, decide_eq_false_iff_not]
          exact ⟨fun ⟨a, b, c⟩ => ⟨a, b, fun ⟨j, hj, e⟩ => c j hj e⟩, fun ⟨a, b, c⟩ => ⟨a, b, fun j hj e => c ⟨j, hj, e⟩⟩⟩
        have HNX := Lib.hid (fun y => hx2 ▸ metF_next l k y)
        have FX2 := Lib.hid fb
        have hbad : ¬ okAt l k → ¬ heapOk l := fun q h => q (h.2 k hkl)
        have hnext : okAt l k → OkTo l (k + 1) := fun q i hi => by
          by_cases e : i = k
          · subst e; exact q
          · exact OKK.out i (by omega)
        have hs1 : ChS (wr.alloc (.cells #[.int .i64 x1, .int .i64 x2] 24)) wr.heap.size bA (oA + par k * 2) x1 x2 y1 y2 :=
          have hb := (Below.refl wr.heap.size wr).alloc (Nat.le_refl _) (.cells #[.int .i64 x1, .int .i64 x2] 24)
          ⟨Bk.new wr _ _, by simp; omega, (hb.cell (p := ⟨bA, _, none⟩) hbB).trans d0, (hb.cell (p := ⟨bA, _, none⟩) hbB).trans d1⟩
        have hbA1 := (Below.refl wr.heap.size wr).alloc (Nat.le_refl _) (.cells #[.int .i64 x1, .int .i64 x2] 24)
        have FS1 := Lib.hid (FS.out.below hbA1)
        have BL1 := Lib.hid (below3 BW.out hbA1)
        have hgx : (Instr.lookup 71 (.map (some w.heap.size)) (.int .i64 x2) true).run Try.prog (wr.alloc (.cells #[.int .i64 x1, .int .i64 x2] 24)) = _ := FS1.out.get fb
        obtain ⟨tw, htw⟩ : ∃ b, metF l k x2 = b := ⟨_, rfl⟩
        rw [htw] at hgx hok
        obtain ⟨gt, hgt⟩ : ∃ g, wr.heap.size = g := ⟨_, rfl⟩
        obtain ⟨V, hV⟩ : ∃ V, wr.alloc (.cells #[.int .i64 x1, .int .i64 x2] 24) = V := ⟨_, rfl⟩
        have lgt : w.heap.size < gt := by rw [← hgt]; exact FS.out.lt
        rw [hV] at hs1 FS1 BL1 hgx
        rw [hgt] at hs1
        have HV := Lib.hid hV
        have HGT := Lib.hid hgt
        have HS1 := Lib.hid hs1
        have HGX := Lib.hid hgx
        clear hV hgt hs1 hgx hbA1 hz hzy hx1 hx2 hy1 hy2 htw FS BW fa fb d0 d1
        go_upto_region 7 with fail
        rw [HV.out]
        try rw [HGT.out]
        clear HV HGT c0 c1 hbA hbB
        have b0 : _ = some (Value.int .i64 x1) := HS1.out.k.cell 0
        have b1 : _ = some (Value.int .i64 x2) := HS1.out.k.cell 1
        have lb := HS1.out.k.lt
        have hgx := HGX.out
        have hW := (Below.refl V.heap.size V).alloc (Nat.le_refl _) (.cells #[] 72)
        have HSP := Lib.hid (show ChS (V.alloc (.cells #[] 72)) gt bA (oA + par k * 2) x1 x2 y1 y2 from ⟨HS1.out.k.below hW HS1.out.k.lt, by have := HS1.out.u.1; simp; omega, (HS1.out.up hW).1, (HS1.out.up hW).2⟩)
        have FSP := Lib.hid (FS1.out.below hW)
        have BL := Lib.hid (below3 BL1.out hW)
        clear hW FS1 BL1 HGX
        go_wp2_with fail
        clear hgx b0 b1 lb HS1
        obtain ⟨W, hWW⟩ : ∃ W, V.alloc (.cells #[] 72) = W := ⟨_, rfl⟩
        rw [hWW] at HSP FSP BL ⊢
        clear hWW
        have HS := HSP
        clear HSP
        cases tw with
        | true =>
          have HNO := Lib.hid (hbad (fun q => by have := (hok.1 q).2.2; cases this))
          clear hok hbad hnext
          refine calm_region (S := fun U => Below W.heap.size W U) (by kernel_rfl) (Below.refl _ _).drew ?_
          refine calm_to (i := 0) (t := 26) (v := .bool true) rfl rfl (by kernel_rfl) (by kernel_rfl) (by kernel_rfl) (fun _ _ _ h => h) (calm_move (by kernel_rfl) (.tmp 7) (.inl rfl) rfl) ?_
          simp only [List.setIfInBounds_toArray, List.set_cons_zero, List.set_cons_succ]
          refine calm_to (i := 1) (t := 27) (v := .bool true) rfl rfl (by kernel_rfl) (by kernel_rfl) (by kernel_rfl) (fun _ _ _ h => h) (calm_move (by kernel_rfl) (.tmp 26) (.inl rfl) rfl) ?_
          simp only [List.setIfInBounds_toArray, List.set_cons_zero, List.set_cons_succ]
          refine calm_to (i := 2) (t := 28) (v := undef) rfl rfl (by kernel_rfl) (by kernel_rfl) (by kernel_rfl) (fun _ _ _ h => h) (calm_skip (by kernel_rfl)) ?_
          simp only [List.setIfInBounds_toArray, List.set_cons_zero, List.set_cons_succ]
          refine calm_to (i := 3) (t := 29) (v := undef) rfl rfl (by kernel_rfl) (by kernel_rfl) (by kernel_rfl) (fun _ _ _ h => h) (calm_skip (by kernel_rfl)) ?_
          simp only [List.setIfInBounds_toArray, List.set_cons_zero, List.set_cons_succ]
          refine calm_to (i := 4) (t := 30) (v := undef) rfl rfl (by kernel_rfl) (by kernel_rfl) (by kernel_rfl) (fun _ _ _ h => h) (calm_skip (by kernel_rfl)) ?_
          simp only [List.setIfInBounds_toArray, List.set_cons_zero, List.set_cons_succ]
          refine calm_to (i := 5) (t := 31) (v := .bool true) rfl rfl (by kernel_rfl) (by kernel_rfl) (by kernel_rfl) (fun _ _ _ h => h) (calm_pick (by kernel_rfl) (.tmp 27) (.const (.bool true)) (.tmp 30) rfl true rfl rfl) ?_
          simp only [List.setIfInBounds_toArray, List.set_cons_zero, List.set_cons_succ]
          refine calm_to (i := 6) (t := 32) (v := .bool true) rfl rfl (by kernel_rfl) (by kernel_rfl) (by kernel_rfl) (fun _ _ _ h => h) (calm_move (by kernel_rfl) (.tmp 31) (.inl rfl) rfl) ?_
          simp only [List.setIfInBounds_toArray, List.set_cons_zero, List.set_cons_succ]
          refine calm_to (i := 7) (t := 33) (v := undef) rfl rfl (by kernel_rfl) (by kernel_rfl) (by kernel_rfl) (fun _ _ _ h => h) (calm_skip (by kernel_rfl)) ?_
          simp only [List.setIfInBounds_toArray, List.set_cons_zero, List.set_cons_succ]
          refine calm_to (i := 8) (t := 34) (v := undef) rfl rfl (by kernel_rfl) (by kernel_rfl) (by kernel_rfl) (fun _ _ _ h => h) (calm_skip (by kernel_rfl)) ?_
          simp only [List.setIfInBounds_toArray, List.set_cons_zero, List.set_cons_succ]
          refine calm_to (i := 9) (t := 35) (v := undef) rfl rfl (by kernel_rfl) (by kernel_rfl) (by kernel_rfl) (fun _ _ _ h => h) (calm_skip (by kernel_rfl)) ?_
          simp only [List.setIfInBounds_toArray, List.set_cons_zero, List.set_cons_succ]
          refine calm_to (i := 10) (t := 36) (v := undef) rfl rfl (by kernel_rfl) (by kernel_rfl) (by kernel_rfl) (fun _ _ _ h => h) (calm_skip (by kernel_rfl)) ?_
          simp only [List.setIfInBounds_toArray, List.set_cons_zero, List.set_cons_succ]
          refine calm_to (i := 11) (t := 37) (v := undef) rfl rfl (by kernel_rfl) (by kernel_rfl) (by kernel_rfl) (fun _ _ _ h => h) (calm_skip (by kernel_rfl)) ?_
          simp only [List.setIfInBounds_toArray, List.set_cons_zero, List.set_cons_succ]
          refine calm_to (i := 12) (t := 38) (v := undef) rfl rfl (by kernel_rfl) (by kernel_rfl) (by kernel_rfl) (fun _ _ _ h => h) (calm_skip (by kernel_rfl)) ?_
          simp only [List.setIfInBounds_toArray, List.set_cons_zero, List.set_cons_succ]
          refine calm_to (i := 13) (t := 39) (v := undef) rfl rfl (by kernel_rfl) (by kernel_rfl) (by kernel_rfl) (fun _ _ _ h => h) (calm_skip (by kernel_rfl)) ?_
          simp only [List.setIfInBounds_toArray, List.set_cons_zero, List.set_cons_succ]
          refine calm_to (i := 14) (t := 40) (v := undef) rfl rfl (by kernel_rfl) (by kernel_rfl) (by kernel_rfl) (fun _ _ _ h => h) (calm_skip (by kernel_rfl)) ?_
          simp only [List.setIfInBounds_toArray, List.set_cons_zero, List.set_cons_succ]
          refine calm_to (i := 15) (t := 41) (v := undef) rfl rfl (by kernel_rfl) (by kernel_rfl) (by kernel_rfl) (fun _ _ _ h => h) (calm_skip (by kernel_rfl)) ?_
          simp only [List.setIfInBounds_toArray, List.set_cons_zero, List.set_cons_succ]
          refine calm_to (i := 16) (t := 42) (v := undef) rfl rfl (by kernel_rfl) (by kernel_rfl) (by kernel_rfl) (fun _ _ _ h => h) (calm_skip (by kernel_rfl)) ?_
          simp only [List.setIfInBounds_toArray, List.set_cons_zero, List.set_cons_succ]
          refine calm_to (i := 17) (t := 43) (v := undef) rfl rfl (by kernel_rfl) (by kernel_rfl) (by kernel_rfl) (fun _ _ _ h => h) (calm_skip (by kernel_rfl)) ?_
          simp only [List.setIfInBounds_toArray, List.set_cons_zero, List.set_cons_succ]
          refine calm_to (i := 18) (t := 44) (v := .bool true) rfl rfl (by kernel_rfl) (by kernel_rfl) (by kernel_rfl) (fun _ _ _ h => h) (calm_pick (by kernel_rfl) (.tmp 32) (.const (.bool true)) (.tmp 43) rfl true rfl rfl) ?_
          simp only [List.setIfInBounds_toArray, List.set_cons_zero, List.set_cons_succ]
          refine calm_done (by kernel_rfl) (fun U hU => ?_) _
          have BB := Lib.hid (below3 BL.out hU)
          clear hU HS
          go_wp2_with fail
          go_ret
          exact ⟨by rw [← HR.out, if_neg HNO.out]; rfl, BB.out⟩
        | false =>
          by_cases hm : mayT (x1, x2)
          · have HM := Lib.hid (decide_eq_true hm)
            by_cases h0 : 0 < k
            · have HK0 := Lib.hid h0
              have HKB := Lib.hid (show k < 2000 by omega)
              have HPK := Lib.hid (show par k < n by unfold par; omega)
              by_cases hl : lessT (x1, x2) (y1, y2)
              · have HL := Lib.hid (decide_eq_true hl)
                have HNO := Lib.hid (hbad (fun q => (hok.1 q).2.1 h0 hl))
                clear hok hbad hnext hm hl
                refine calm_region (S := fun U => Below W.heap.size W U) (by kernel_rfl) (Below.refl _ _).drew ?_
                refine calm_to (i := 0) (t := 26) (v := .bool false) rfl rfl (by kernel_rfl) (by kernel_rfl) (by kernel_rfl) (fun _ _ _ h => h) (calm_move (by kernel_rfl) (.tmp 7) (.inl rfl) rfl) ?_
                simp only [List.setIfInBounds_toArray, List.set_cons_zero, List.set_cons_succ]
                refine calm_to (i := 1) (t := 27) (v := .bool false) rfl rfl (by kernel_rfl) (by kernel_rfl) (by kernel_rfl) (fun _ _ _ h => h) (calm_move (by kernel_rfl) (.tmp 26) (.inl rfl) rfl) ?_
                simp only [List.setIfInBounds_toArray, List.set_cons_zero, List.set_cons_succ]
                refine calm_to (i := 2) (t := 28) (v := .agg #[.int .i64 x1, .int .i64 x2]) rfl rfl (by kernel_rfl) (by kernel_rfl) (by kernel_rfl) (fun _ _ _ h => h) (calm_of (by kernel_rfl) (fun U hU => by obtain ⟨q0, q1⟩ := HS.out.tim hU; go_simp)) ?_
                simp only [List.setIfInBounds_toArray, List.set_cons_zero, List.set_cons_succ]
                refine calm_to (i := 3) (t := 29) (v := .bool true) rfl rfl (by kernel_rfl) (by kernel_rfl) (by kernel_rfl) (fun _ _ _ h => h) (calm_call1 (by kernel_rfl) 31 (.tmp 28) #[24] rfl (enters_of Try.func31 (by kernel_rfl) rfl) (.agg #[.int .i64 x1, .int .i64 x2]) rfl (fun U hU => (pmay_any x1 x2 U).mono fun _ _ q => ⟨by rw [q.1, HM.out], hU.trans (q.2.mono hU.size)⟩)) ?_
                simp only [List.setIfInBounds_toArray, List.set_cons_zero, List.set_cons_succ]
                refine calm_to (i := 4) (t := 30) (v := .bool false) rfl rfl (by kernel_rfl) (by kernel_rfl) (by kernel_rfl) (fun _ _ _ h => h) (calm_of (by kernel_rfl) (fun U hU => by go_simp)) ?_
                simp only [List.setIfInBounds_toArray, List.set_cons_zero, List.set_cons_succ]
                refine calm_to (i := 5) (t := 31) (v := .bool false) rfl rfl (by kernel_rfl) (by kernel_rfl) (by kernel_rfl) (fun _ _ _ h => h) (calm_pick (by kernel_rfl) (.tmp 27) (.const (.bool true)) (.tmp 30) rfl false rfl rfl) ?_
                simp only [List.setIfInBounds_toArray, List.set_cons_zero, List.set_cons_succ]
                refine calm_to (i := 6) (t := 32) (v := .bool false) rfl rfl (by kernel_rfl) (by kernel_rfl) (by kernel_rfl) (fun _ _ _ h => h) (calm_move (by kernel_rfl) (.tmp 31) (.inl rfl) rfl) ?_
                simp only [List.setIfInBounds_toArray, List.set_cons_zero, List.set_cons_succ]
                refine calm_to (i := 7) (t := 33) (v := .int .i64 (k : Int)) rfl rfl (by kernel_rfl) (by kernel_rfl) (by kernel_rfl) (fun _ _ _ h => h) (calm_move (by kernel_rfl) (.tmp 4) (.inl rfl) rfl) ?_
                simp only [List.setIfInBounds_toArray, List.set_cons_zero, List.set_cons_succ]
                refine calm_to (i := 8) (t := 34) (v := .bool true) rfl rfl (by kernel_rfl) (by kernel_rfl) (by kernel_rfl) (fun _ _ _ h => h) (calm_of (by kernel_rfl) (fun U hU => by go_simp)) ?_
                simp only [List.setIfInBounds_toArray, List.set_cons_zero, List.set_cons_succ]
                refine calm_to (i := 9) (t := 35) (v := .bool true) rfl rfl (by kernel_rfl) (by kernel_rfl) (by kernel_rfl) (fun _ _ _ h => h) (calm_move (by kernel_rfl) (.tmp 34) (.inl rfl) rfl) ?_
                simp only [List.setIfInBounds_toArray, List.set_cons_zero, List.set_cons_succ]
                refine calm_to (i := 10) (t := 36) (v := .agg #[.int .i64 x1, .int .i64 x2]) rfl rfl (by kernel_rfl) (by kernel_rfl) (by kernel_rfl) (fun _ _ _ h => h) (calm_of (by kernel_rfl) (fun U hU => by obtain ⟨q0, q1⟩ := HS.out.tim hU; go_simp)) ?_
                simp only [List.setIfInBounds_toArray, List.set_cons_zero, List.set_cons_succ]
                refine calm_to (i := 11) (t := 37) (v := .slice (some ⟨bA, oA, none⟩) n c) rfl rfl (by kernel_rfl) (by kernel_rfl) (by kernel_rfl) (fun _ _ _ h => h) (calm_move (by kernel_rfl) (.tmp 0) (.inl rfl) rfl) ?_
                simp only [List.setIfInBounds_toArray, List.set_cons_zero, List.set_cons_succ]
                refine calm_to (i := 12) (t := 38) (v := .int .i64 (k : Int)) rfl rfl (by kernel_rfl) (by kernel_rfl) (by kernel_rfl) (fun _ _ _ h => h) (calm_move (by kernel_rfl) (.tmp 4) (.inl rfl) rfl) ?_
                simp only [List.setIfInBounds_toArray, List.set_cons_zero, List.set_cons_succ]
                refine calm_to (i := 13) (t := 39) (v := .int .i64 ((par k : Nat) : Int)) rfl rfl (by kernel_rfl) (by kernel_rfl) (by kernel_rfl) (fun _ _ _ h => h) (calm_call1 (by kernel_rfl) 48 (.tmp 38) #[3] rfl (enters_of Try.func48 (by kernel_rfl) rfl) (.int .i64 (k : Int)) rfl (fun U hU => (above_any k HK0.out HKB.out U).mono fun _ _ q => ⟨q.1, hU.trans (q.2.mono hU.size)⟩)) ?_
                simp only [List.setIfInBounds_toArray, List.set_cons_zero, List.set_cons_succ]
                refine calm_to (i := 14) (t := 40) (v := .pointer (some ⟨bA, oA + par k * 2, none⟩)) rfl rfl (by kernel_rfl) (by kernel_rfl) (by kernel_rfl) (fun _ _ _ h => h) (calm_of (by kernel_rfl) (fun U hU => by have hpk := HPK.out; go_simp)) ?_
                simp only [List.setIfInBounds_toArray, List.set_cons_zero, List.set_cons_succ]
                refine calm_to (i := 15) (t := 41) (v := .agg #[.int .i64 y1, .int .i64 y2]) rfl rfl (by kernel_rfl) (by kernel_rfl) (by kernel_rfl) (fun _ _ _ h => h) (calm_of (by kernel_rfl) (fun U hU => by obtain ⟨q0, q1⟩ := HS.out.up hU; go_simp)) ?_
                simp only [List.setIfInBounds_toArray, List.set_cons_zero, List.set_cons_succ]
                refine calm_to (i := 16) (t := 42) (v := .bool true) rfl rfl (by kernel_rfl) (by kernel_rfl) (by kernel_rfl) (fun _ _ _ h => h) (calm_call2 (by kernel_rfl) 47 (.tmp 36) (.tmp 41) #[24, 24] rfl (enters_of Try.func47 (by kernel_rfl) rfl) (.agg #[.int .i64 x1, .int .i64 x2]) (.agg #[.int .i64 y1, .int .i64 y2]) rfl rfl (fun U hU => (ahead_any x1 x2 y1 y2 U).mono fun _ _ q => ⟨by rw [q.1, HL.out], hU.trans (q.2.mono hU.size)⟩)) ?_
                simp only [List.setIfInBounds_toArray, List.set_cons_zero, List.set_cons_succ]
                refine calm_to (i := 17) (t := 43) (v := .bool true) rfl rfl (by kernel_rfl) (by kernel_rfl) (by kernel_rfl) (fun _ _ _ h => h) (calm_pick (by kernel_rfl) (.tmp 35) (.tmp 42) (.const (.bool false)) rfl true rfl rfl) ?_
                simp only [List.setIfInBounds_toArray, List.set_cons_zero, List.set_cons_succ]
                refine calm_to (i := 18) (t := 44) (v := .bool true) rfl rfl (by kernel_rfl) (by kernel_rfl) (by kernel_rfl) (fun _ _ _ h => h) (calm_pick (by kernel_rfl) (.tmp 32) (.const (.bool true)) (.tmp 43) rfl false rfl rfl) ?_
                simp only [List.setIfInBounds_toArray, List.set_cons_zero, List.set_cons_succ]
                refine calm_done (by kernel_rfl) (fun U hU => ?_) _
                have BB := Lib.hid (below3 BL.out hU)
                clear hU HS
                go_wp2_with fail
                go_ret
                exact ⟨by rw [← HR.out, if_neg HNO.out]; rfl, BB.out⟩
              · have HL := Lib.hid (decide_eq_false hl)
                have OKN := Lib.hid (hnext (hok.2 ⟨hm, fun _ => hl, rfl⟩))
                clear hok hbad hnext hm hl
                refine calm_region (S := fun U => Below W.heap.size W U) (by kernel_rfl) (Below.refl _ _).drew ?_
                refine calm_to (i := 0) (t := 26) (v := .bool false) rfl rfl (by kernel_rfl) (by kernel_rfl) (by kernel_rfl) (fun _ _ _ h => h) (calm_move (by kernel_rfl) (.tmp 7) (.inl rfl) rfl) ?_
                simp only [List.setIfInBounds_toArray, List.set_cons_zero, List.set_cons_succ]
                refine calm_to (i := 1) (t := 27) (v := .bool false) rfl rfl (by kernel_rfl) (by kernel_rfl) (by kernel_rfl) (fun _ _ _ h => h) (calm_move (by kernel_rfl) (.tmp 26) (.inl rfl) rfl) ?_
                simp only [List.setIfInBounds_toArray, List.set_cons_zero, List.set_cons_succ]
                refine calm_to (i := 2) (t := 28) (v := .agg #[.int .i64 x1, .int .i64 x2]) rfl rfl (by kernel_rfl) (by kernel_rfl) (by kernel_rfl) (fun _ _ _ h => h) (calm_of (by kernel_rfl) (fun U hU => by obtain ⟨q0, q1⟩ := HS.out.tim hU; go_simp)) ?_
                simp only [List.setIfInBounds_toArray, List.set_cons_zero, List.set_cons_succ]
                refine calm_to (i := 3) (t := 29) (v := .bool true) rfl rfl (by kernel_rfl) (by kernel_rfl) (by kernel_rfl) (fun _ _ _ h => h) (calm_call1 (by kernel_rfl) 31 (.tmp 28) #[24] rfl (enters_of Try.func31 (by kernel_rfl) rfl) (.agg #[.int .i64 x1, .int .i64 x2]) rfl (fun U hU => (pmay_any x1 x2 U).mono fun _ _ q => ⟨by rw [q.1, HM.out], hU.trans (q.2.mono hU.size)⟩)) ?_
                simp only [List.setIfInBounds_toArray, List.set_cons_zero, List.set_cons_succ]
                refine calm_to (i := 4) (t := 30) (v := .bool false) rfl rfl (by kernel_rfl) (by kernel_rfl) (by kernel_rfl) (fun _ _ _ h => h) (calm_of (by kernel_rfl) (fun U hU => by go_simp)) ?_
                simp only [List.setIfInBounds_toArray, List.set_cons_zero, List.set_cons_succ]
                refine calm_to (i := 5) (t := 31) (v := .bool false) rfl rfl (by kernel_rfl) (by kernel_rfl) (by kernel_rfl) (fun _ _ _ h => h) (calm_pick (by kernel_rfl) (.tmp 27) (.const (.bool true)) (.tmp 30) rfl false rfl rfl) ?_
                simp only [List.setIfInBounds_toArray, List.set_cons_zero, List.set_cons_succ]
                refine calm_to (i := 6) (t := 32) (v := .bool false) rfl rfl (by kernel_rfl) (by kernel_rfl) (by kernel_rfl) (fun _ _ _ h => h) (calm_move (by kernel_rfl) (.tmp 31) (.inl rfl) rfl) ?_
                simp only [List.setIfInBounds_toArray, List.set_cons_zero, List.set_cons_succ]
                refine calm_to (i := 7) (t := 33) (v := .int .i64 (k : Int)) rfl rfl (by kernel_rfl) (by kernel_rfl) (by kernel_rfl) (fun _ _ _ h => h) (calm_move (by kernel_rfl) (.tmp 4) (.inl rfl) rfl) ?_
                simp only [List.setIfInBounds_toArray, List.set_cons_zero, List.set_cons_succ]
                refine calm_to (i := 8) (t := 34) (v := .bool true) rfl rfl (by kernel_rfl) (by kernel_rfl) (by kernel_rfl) (fun _ _ _ h => h) (calm_of (by kernel_rfl) (fun U hU => by go_simp)) ?_
                simp only [List.setIfInBounds_toArray, List.set_cons_zero, List.set_cons_succ]
                refine calm_to (i := 9) (t := 35) (v := .bool true) rfl rfl (by kernel_rfl) (by kernel_rfl) (by kernel_rfl) (fun _ _ _ h => h) (calm_move (by kernel_rfl) (.tmp 34) (.inl rfl) rfl) ?_
                simp only [List.setIfInBounds_toArray, List.set_cons_zero, List.set_cons_succ]
                refine calm_to (i := 10) (t := 36) (v := .agg #[.int .i64 x1, .int .i64 x2]) rfl rfl (by kernel_rfl) (by kernel_rfl) (by kernel_rfl) (fun _ _ _ h => h) (calm_of (by kernel_rfl) (fun U hU => by obtain ⟨q0, q1⟩ := HS.out.tim hU; go_simp)) ?_
                simp only [List.setIfInBounds_toArray, List.set_cons_zero, List.set_cons_succ]
                refine calm_to (i := 11) (t := 37) (v := .slice (some ⟨bA, oA, none⟩) n c) rfl rfl (by kernel_rfl) (by kernel_rfl) (by kernel_rfl) (fun _ _ _ h => h) (calm_move (by kernel_rfl) (.tmp 0) (.inl rfl) rfl) ?_
                simp only [List.setIfInBounds_toArray, List.set_cons_zero, List.set_cons_succ]
                refine calm_to (i := 12) (t := 38) (v := .int .i64 (k : Int)) rfl rfl (by kernel_rfl) (by kernel_rfl) (by kernel_rfl) (fun _ _ _ h => h) (calm_move (by kernel_rfl) (.tmp 4) (.inl rfl) rfl) ?_
                simp only [List.setIfInBounds_toArray, List.set_cons_zero, List.set_cons_succ]
                refine calm_to (i := 13) (t := 39) (v := .int .i64 ((par k : Nat) : Int)) rfl rfl (by kernel_rfl) (by kernel_rfl) (by kernel_rfl) (fun _ _ _ h => h) (calm_call1 (by kernel_rfl) 48 (.tmp 38) #[3] rfl (enters_of Try.func48 (by kernel_rfl) rfl) (.int .i64 (k : Int)) rfl (fun U hU => (above_any k HK0.out HKB.out U).mono fun _ _ q => ⟨q.1, hU.trans (q.2.mono hU.size)⟩)) ?_
                simp only [List.setIfInBounds_toArray, List.set_cons_zero, List.set_cons_succ]
                refine calm_to (i := 14) (t := 40) (v := .pointer (some ⟨bA, oA + par k * 2, none⟩)) rfl rfl (by kernel_rfl) (by kernel_rfl) (by kernel_rfl) (fun _ _ _ h => h) (calm_of (by kernel_rfl) (fun U hU => by have hpk := HPK.out; go_simp)) ?_
                simp only [List.setIfInBounds_toArray, List.set_cons_zero, List.set_cons_succ]
                refine calm_to (i := 15) (t := 41) (v := .agg #[.int .i64 y1, .int .i64 y2]) rfl rfl (by kernel_rfl) (by kernel_rfl) (by kernel_rfl) (fun _ _ _ h => h) (calm_of (by kernel_rfl) (fun U hU => by obtain ⟨q0, q1⟩ := HS.out.up hU; go_simp)) ?_
                simp only [List.setIfInBounds_toArray, List.set_cons_zero, List.set_cons_succ]
                refine calm_to (i := 16) (t := 42) (v := .bool false) rfl rfl (by kernel_rfl) (by kernel_rfl) (by kernel_rfl) (fun _ _ _ h => h) (calm_call2 (by kernel_rfl) 47 (.tmp 36) (.tmp 41) #[24, 24] rfl (enters_of Try.func47 (by kernel_rfl) rfl) (.agg #[.int .i64 x1, .int .i64 x2]) (.agg #[.int .i64 y1, .int .i64 y2]) rfl rfl (fun U hU => (ahead_any x1 x2 y1 y2 U).mono fun _ _ q => ⟨by rw [q.1, HL.out], hU.trans (q.2.mono hU.size)⟩)) ?_
                simp only [List.setIfInBounds_toArray, List.set_cons_zero, List.set_cons_succ]
                refine calm_to (i := 17) (t := 43) (v := .bool false) rfl rfl (by kernel_rfl) (by kernel_rfl) (by kernel_rfl) (fun _ _ _ h => h) (calm_pick (by kernel_rfl) (.tmp 35) (.tmp 42) (.const (.bool false)) rfl true rfl rfl) ?_
                simp only [List.setIfInBounds_toArray, List.set_cons_zero, List.set_cons_succ]
                refine calm_to (i := 18) (t := 44) (v := .bool false) rfl rfl (by kernel_rfl) (by kernel_rfl) (by kernel_rfl) (fun _ _ _ h => h) (calm_pick (by kernel_rfl) (.tmp 32) (.const (.bool true)) (.tmp 43) rfl false rfl rfl) ?_
                simp only [List.setIfInBounds_toArray, List.set_cons_zero, List.set_cons_succ]
                refine calm_done (by kernel_rfl) (fun U hU => ?_) _
                have BB := Lib.hid (below3 BL.out hU)
                have FS := Lib.hid (FSP.out.below hU)
                have q1 : _ = some (Value.int .i64 x2) := (HS.out.tim hU).2
                have lq := HS.out.lt hU
                obtain ⟨U2, hrun, F2, G2⟩ := FS.out.put (x := x2) FX2.out (by omega)
                have BB2 := Lib.hid (BB.out.grown G2 BB.out.size (by intro j hj; injection hj with hj; have := HMW.out; omega))
                have F3 := Lib.hid (F2.same (fun y => HNX.out y))
                clear hU HS BB FS F2 G2
                go_wp2_with fail
                go_roundw
                case rel => exact ⟨k + 1, by omega, by go_num, OKN, F3, BB2⟩
                case measure => simp [intOf]; omega
            · have HKZ := Lib.hid h0
              have OKN := Lib.hid (hnext (hok.2 ⟨hm, fun q => absurd q h0, rfl⟩))
              clear hok hbad hnext hm
              have h00 : decide (0 < (k : Int)) = false := decide_eq_false (by omega)
              clear h0
              refine calm_region (S := fun U => Below W.heap.size W U) (by kernel_rfl) (Below.refl _ _).drew ?_
              refine calm_to (i := 0) (t := 26) (v := .bool false) rfl rfl (by kernel_rfl) (by kernel_rfl) (by kernel_rfl) (fun _ _ _ h => h) (calm_move (by kernel_rfl) (.tmp 7) (.inl rfl) rfl) ?_
              simp only [List.setIfInBounds_toArray, List.set_cons_zero, List.set_cons_succ]
              refine calm_to (i := 1) (t := 27) (v := .bool false) rfl rfl (by kernel_rfl) (by kernel_rfl) (by kernel_rfl) (fun _ _ _ h => h) (calm_move (by kernel_rfl) (.tmp 26) (.inl rfl) rfl) ?_
              simp only [List.setIfInBounds_toArray, List.set_cons_zero, List.set_cons_succ]
              refine calm_to (i := 2) (t := 28) (v := .agg #[.int .i64 x1, .int .i64 x2]) rfl rfl (by kernel_rfl) (by kernel_rfl) (by kernel_rfl) (fun _ _ _ h => h) (calm_of (by kernel_rfl) (fun U hU => by obtain ⟨q0, q1⟩ := HS.out.tim hU; go_simp)) ?_
              simp only [List.setIfInBounds_toArray, List.set_cons_zero, List.set_cons_succ]
              refine calm_to (i := 3) (t := 29) (v := .bool true) rfl rfl (by kernel_rfl) (by kernel_rfl) (by kernel_rfl) (fun _ _ _ h => h) (calm_call1 (by kernel_rfl) 31 (.tmp 28) #[24] rfl (enters_of Try.func31 (by kernel_rfl) rfl) (.agg #[.int .i64 x1, .int .i64 x2]) rfl (fun U hU => (pmay_any x1 x2 U).mono fun _ _ q => ⟨by rw [q.1, HM.out], hU.trans (q.2.mono hU.size)⟩)) ?_
              simp only [List.setIfInBounds_toArray, List.set_cons_zero, List.set_cons_succ]
              refine calm_to (i := 4) (t := 30) (v := .bool false) rfl rfl (by kernel_rfl) (by kernel_rfl) (by kernel_rfl) (fun _ _ _ h => h) (calm_of (by kernel_rfl) (fun U hU => by go_simp)) ?_
              simp only [List.setIfInBounds_toArray, List.set_cons_zero, List.set_cons_succ]
              refine calm_to (i := 5) (t := 31) (v := .bool false) rfl rfl (by kernel_rfl) (by kernel_rfl) (by kernel_rfl) (fun _ _ _ h => h) (calm_pick (by kernel_rfl) (.tmp 27) (.const (.bool true)) (.tmp 30) rfl false rfl rfl) ?_
              simp only [List.setIfInBounds_toArray, List.set_cons_zero, List.set_cons_succ]
              refine calm_to (i := 6) (t := 32) (v := .bool false) rfl rfl (by kernel_rfl) (by kernel_rfl) (by kernel_rfl) (fun _ _ _ h => h) (calm_move (by kernel_rfl) (.tmp 31) (.inl rfl) rfl) ?_
              simp only [List.setIfInBounds_toArray, List.set_cons_zero, List.set_cons_succ]
              refine calm_to (i := 7) (t := 33) (v := .int .i64 (k : Int)) rfl rfl (by kernel_rfl) (by kernel_rfl) (by kernel_rfl) (fun _ _ _ h => h) (calm_move (by kernel_rfl) (.tmp 4) (.inl rfl) rfl) ?_
              simp only [List.setIfInBounds_toArray, List.set_cons_zero, List.set_cons_succ]
              refine calm_to (i := 8) (t := 34) (v := .bool false) rfl rfl (by kernel_rfl) (by kernel_rfl) (by kernel_rfl) (fun _ _ _ h => h) (calm_of (by kernel_rfl) (fun U hU => by go_simp; have := HKZ.out; omega)) ?_
              simp only [List.setIfInBounds_toArray, List.set_cons_zero, List.set_cons_succ]
              refine calm_to (i := 9) (t := 35) (v := .bool false) rfl rfl (by kernel_rfl) (by kernel_rfl) (by kernel_rfl) (fun _ _ _ h => h) (calm_move (by kernel_rfl) (.tmp 34) (.inl rfl) rfl) ?_
              simp only [List.setIfInBounds_toArray, List.set_cons_zero, List.set_cons_succ]
              refine calm_to (i := 10) (t := 36) (v := undef) rfl rfl (by kernel_rfl) (by kernel_rfl) (by kernel_rfl) (fun _ _ _ h => h) (calm_skip (by kernel_rfl)) ?_
              simp only [List.setIfInBounds_toArray, List.set_cons_zero, List.set_cons_succ]
              refine calm_to (i := 11) (t := 37) (v := undef) rfl rfl (by kernel_rfl) (by kernel_rfl) (by kernel_rfl) (fun _ _ _ h => h) (calm_skip (by kernel_rfl)) ?_
              simp only [List.setIfInBounds_toArray, List.set_cons_zero, List.set_cons_succ]
              refine calm_to (i := 12) (t := 38) (v := undef) rfl rfl (by kernel_rfl) (by kernel_rfl) (by kernel_rfl) (fun _ _ _ h => h) (calm_skip (by kernel_rfl)) ?_
              simp only [List.setIfInBounds_toArray, List.set_cons_zero, List.set_cons_succ]
              refine calm_to (i := 13) (t := 39) (v := undef) rfl rfl (by kernel_rfl) (by kernel_rfl) (by kernel_rfl) (fun _ _ _ h => h) (calm_skip (by kernel_rfl)) ?_
              simp only [List.setIfInBounds_toArray, List.set_cons_zero, List.set_cons_succ]
              refine calm_to (i := 14) (t := 40) (v := undef) rfl rfl (by kernel_rfl) (by kernel_rfl) (by kernel_rfl) (fun _ _ _ h => h) (calm_skip (by kernel_rfl)) ?_
              simp only [List.setIfInBounds_toArray, List.set_cons_zero, List.set_cons_succ]
              refine calm_to (i := 15) (t := 41) (v := undef) rfl rfl (by kernel_rfl) (by kernel_rfl) (by kernel_rfl) (fun _ _ _ h => h) (calm_skip (by kernel_rfl)) ?_
              simp only [List.setIfInBounds_toArray, List.set_cons_zero, List.set_cons_succ]
              refine calm_to (i := 16) (t := 42) (v := undef) rfl rfl (by kernel_rfl) (by kernel_rfl) (by kernel_rfl) (fun _ _ _ h => h) (calm_skip (by kernel_rfl)) ?_
              simp only [List.setIfInBounds_toArray, List.set_cons_zero, List.set_cons_succ]
              refine calm_to (i := 17) (t := 43) (v := .bool false) rfl rfl (by kernel_rfl) (by kernel_rfl) (by kernel_rfl) (fun _ _ _ h => h) (calm_pick (by kernel_rfl) (.tmp 35) (.tmp 42) (.const (.bool false)) rfl false rfl rfl) ?_
              simp only [List.setIfInBounds_toArray, List.set_cons_zero, List.set_cons_succ]
              refine calm_to (i := 18) (t := 44) (v := .bool false) rfl rfl (by kernel_rfl) (by kernel_rfl) (by kernel_rfl) (fun _ _ _ h => h) (calm_pick (by kernel_rfl) (.tmp 32) (.const (.bool true)) (.tmp 43) rfl false rfl rfl) ?_
              simp only [List.setIfInBounds_toArray, List.set_cons_zero, List.set_cons_succ]
              refine calm_done (by kernel_rfl) (fun U hU => ?_) _
              have BB := Lib.hid (below3 BL.out hU)
              have FS := Lib.hid (FSP.out.below hU)
              have q1 : _ = some (Value.int .i64 x2) := (HS.out.tim hU).2
              have lq := HS.out.lt hU
              obtain ⟨U2, hrun, F2, G2⟩ := FS.out.put (x := x2) FX2.out (by omega)
              have BB2 := Lib.hid (BB.out.grown G2 BB.out.size (by intro j hj; injection hj with hj; have := HMW.out; omega))
              have F3 := Lib.hid (F2.same (fun y => HNX.out y))
              clear hU HS BB FS F2 G2
              go_wp2_with fail
              go_roundw
              case rel => exact ⟨k + 1, by omega, by go_num, OKN, F3, BB2⟩
              case measure => simp [intOf]; omega
          · have HM := Lib.hid (decide_eq_false hm)
            have HNO := Lib.hid (hbad (fun q => hm (hok.1 q).1))
            clear hok hbad hnext hm
            refine calm_region (S := fun U => Below W.heap.size W U) (by kernel_rfl) (Below.refl _ _).drew ?_
            refine calm_to (i := 0) (t := 26) (v := .bool false) rfl rfl (by kernel_rfl) (by kernel_rfl) (by kernel_rfl) (fun _ _ _ h => h) (calm_move (by kernel_rfl) (.tmp 7) (.inl rfl) rfl) ?_
            simp only [List.setIfInBounds_toArray, List.set_cons_zero, List.set_cons_succ]
            refine calm_to (i := 1) (t := 27) (v := .bool false) rfl rfl (by kernel_rfl) (by kernel_rfl) (by kernel_rfl) (fun _ _ _ h => h) (calm_move (by kernel_rfl) (.tmp 26) (.inl rfl) rfl) ?_
            simp only [List.setIfInBounds_toArray, List.set_cons_zero, List.set_cons_succ]
            refine calm_to (i := 2) (t := 28) (v := .agg #[.int .i64 x1, .int .i64 x2]) rfl rfl (by kernel_rfl) (by kernel_rfl) (by kernel_rfl) (fun _ _ _ h => h) (calm_of (by kernel_rfl) (fun U hU => by obtain ⟨q0, q1⟩ := HS.out.tim hU; go_simp)) ?_
            simp only [List.setIfInBounds_toArray, List.set_cons_zero, List.set_cons_succ]
            refine calm_to (i := 3) (t := 29) (v := .bool false) rfl rfl (by kernel_rfl) (by kernel_rfl) (by kernel_rfl) (fun _ _ _ h => h) (calm_call1 (by kernel_rfl) 31 (.tmp 28) #[24] rfl (enters_of Try.func31 (by kernel_rfl) rfl) (.agg #[.int .i64 x1, .int .i64 x2]) rfl (fun U hU => (pmay_any x1 x2 U).mono fun _ _ q => ⟨by rw [q.1, HM.out], hU.trans (q.2.mono hU.size)⟩)) ?_
            simp only [List.setIfInBounds_toArray, List.set_cons_zero, List.set_cons_succ]
            refine calm_to (i := 4) (t := 30) (v := .bool true) rfl rfl (by kernel_rfl) (by kernel_rfl) (by kernel_rfl) (fun _ _ _ h => h) (calm_of (by kernel_rfl) (fun U hU => by go_simp)) ?_
            simp only [List.setIfInBounds_toArray, List.set_cons_zero, List.set_cons_succ]
            refine calm_to (i := 5) (t := 31) (v := .bool true) rfl rfl (by kernel_rfl) (by kernel_rfl) (by kernel_rfl) (fun _ _ _ h => h) (calm_pick (by kernel_rfl) (.tmp 27) (.const (.bool true)) (.tmp 30) rfl false rfl rfl) ?_
            simp only [List.setIfInBounds_toArray, List.set_cons_zero, List.set_cons_succ]
            refine calm_to (i := 6) (t := 32) (v := .bool true) rfl rfl (by kernel_rfl) (by kernel_rfl) (by kernel_rfl) (fun _ _ _ h => h) (calm_move (by kernel_rfl) (.tmp 31) (.inl rfl) rfl) ?_
            simp only [List.setIfInBounds_toArray, List.set_cons_zero, List.set_cons_succ]
            refine calm_to (i := 7) (t := 33) (v := undef) rfl rfl (by kernel_rfl) (by kernel_rfl) (by kernel_rfl) (fun _ _ _ h => h) (calm_skip (by kernel_rfl)) ?_
            simp only [List.setIfInBounds_toArray, List.set_cons_zero, List.set_cons_succ]
            refine calm_to (i := 8) (t := 34) (v := undef) rfl rfl (by kernel_rfl) (by kernel_rfl) (by kernel_rfl) (fun _ _ _ h => h) (calm_skip (by kernel_rfl)) ?_
            simp only [List.setIfInBounds_toArray, List.set_cons_zero, List.set_cons_succ]
            refine calm_to (i := 9) (t := 35) (v := undef) rfl rfl (by kernel_rfl) (by kernel_rfl) (by kernel_rfl) (fun _ _ _ h => h) (calm_skip (by kernel_rfl)) ?_
            simp only [List.setIfInBounds_toArray, List.set_cons_zero, List.set_cons_succ]
            refine calm_to (i := 10) (t := 36) (v := undef) rfl rfl (by kernel_rfl) (by kernel_rfl) (by kernel_rfl) (fun _ _ _ h => h) (calm_skip (by kernel_rfl)) ?_
            simp only [List.setIfInBounds_toArray, List.set_cons_zero, List.set_cons_succ]
            refine calm_to (i := 11) (t := 37) (v := undef) rfl rfl (by kernel_rfl) (by kernel_rfl) (by kernel_rfl) (fun _ _ _ h => h) (calm_skip (by kernel_rfl)) ?_
            simp only [List.setIfInBounds_toArray, List.set_cons_zero, List.set_cons_succ]
            refine calm_to (i := 12) (t := 38) (v := undef) rfl rfl (by kernel_rfl) (by kernel_rfl) (by kernel_rfl) (fun _ _ _ h => h) (calm_skip (by kernel_rfl)) ?_
            simp only [List.setIfInBounds_toArray, List.set_cons_zero, List.set_cons_succ]
            refine calm_to (i := 13) (t := 39) (v := undef) rfl rfl (by kernel_rfl) (by kernel_rfl) (by kernel_rfl) (fun _ _ _ h => h) (calm_skip (by kernel_rfl)) ?_
            simp only [List.setIfInBounds_toArray, List.set_cons_zero, List.set_cons_succ]
            refine calm_to (i := 14) (t := 40) (v := undef) rfl rfl (by kernel_rfl) (by kernel_rfl) (by kernel_rfl) (fun _ _ _ h => h) (calm_skip (by kernel_rfl)) ?_
            simp only [List.setIfInBounds_toArray, List.set_cons_zero, List.set_cons_succ]
            refine calm_to (i := 15) (t := 41) (v := undef) rfl rfl (by kernel_rfl) (by kernel_rfl) (by kernel_rfl) (fun _ _ _ h => h) (calm_skip (by kernel_rfl)) ?_
            simp only [List.setIfInBounds_toArray, List.set_cons_zero, List.set_cons_succ]
            refine calm_to (i := 16) (t := 42) (v := undef) rfl rfl (by kernel_rfl) (by kernel_rfl) (by kernel_rfl) (fun _ _ _ h => h) (calm_skip (by kernel_rfl)) ?_
            simp only [List.setIfInBounds_toArray, List.set_cons_zero, List.set_cons_succ]
            refine calm_to (i := 17) (t := 43) (v := undef) rfl rfl (by kernel_rfl) (by kernel_rfl) (by kernel_rfl) (fun _ _ _ h => h) (calm_skip (by kernel_rfl)) ?_
            simp only [List.setIfInBounds_toArray, List.set_cons_zero, List.set_cons_succ]
            refine calm_to (i := 18) (t := 44) (v := .bool true) rfl rfl (by kernel_rfl) (by kernel_rfl) (by kernel_rfl) (fun _ _ _ h => h) (calm_pick (by kernel_rfl) (.tmp 32) (.const (.bool true)) (.tmp 43) rfl true rfl rfl) ?_
            simp only [List.setIfInBounds_toArray, List.set_cons_zero, List.set_cons_succ]
            refine calm_done (by kernel_rfl) (fun U hU => ?_) _
            have BB := Lib.hid (below3 BL.out hU)
            clear hU HS
            go_wp2_with fail
            go_ret
            exact ⟨by rw [← HR.out, if_neg HNO.out]; rfl, BB.out⟩
      · obtain rfl : n = k := by omega
        have HOK := Lib.hid (show heapOk l from ⟨by rw [LX.out]; omega, by rw [LX.out]; exact OKK.out⟩)
        go_wp2_with fail
        go_ret
        exact ⟨by rw [← HR.out, if_pos HOK.out]; rfl, BW.out⟩

end Go.Proofs.Ytjamoafihmcmeaa

/-
  Layer 9, the program: whether descriptors may be: who waits was met.
-/
import Derived.Test.YtndbaoiabmldgaaPa
import Derived.Maps.OwnSet
import Derived.Maps.Views
namespace Go.Proofs.Ytndbaoiabmldgaa
open Go.RowKit Go.Maps

theorem Try.lawI64 : Keyed Try.prog 2 := int_keyed Try.underlying2
theorem keyI64 {x : Int} (h : Fit x) : keyOf Try.prog 2 (.int .i64 x) = some (.int .i64 x) := keyOf_int_mk Try.underlying2 (wf_of_fit h)
theorem Try.zeroUnit (w : World) : (zeroValue 59).run Try.prog w = .ok (.agg #[]) w := by kernel_rfl

/-- In block b lies a set of just those numbers (n of them at the most). -/
def FSet (w : World) (b n : Nat) (f : Int → Bool) : Prop :=
  ∃ D : DataW Unit, w.ownsMap Try.prog 2 unitElem b n D ∧ ∀ x, Maps.has D (.int .i64 x) = f x
section
variable {w w' : World} {b n : Nat} {f : Int → Bool}
theorem FSet.made (w : World) : FSet (w.alloc (.map #[] 0)) w.heap.size 0 fun _ => false :=
  ⟨.map [], World.ownsMap_made w _ _ _, fun _ => rfl⟩
theorem FSet.below (h : FSet w b n f) (hb : Below w.heap.size w w') : FSet w' b n f := by
  obtain ⟨D, hD, hf⟩ := h
  exact ⟨D, hD.kept (row := none) ⟨hb.os, hb.tape, hb.output, hb.size, fun k hk _ => hb.block k hk⟩ (by simp), hf⟩
theorem FSet.lt (h : FSet w b n f) : b < w.heap.size := by obtain ⟨D, hD, _⟩ := h; exact hD.lt
theorem FSet.same {g : Int → Bool} (h : FSet w b n f) (e : ∀ y, f y = g y) : FSet w b n g := by
  obtain ⟨D, hD, hf⟩ := h
  exact ⟨D, hD, fun x => (hf x).trans (e x)⟩
theorem FSet.get (h : FSet w b n f) {x : Int} (hx : Fit x) : (Instr.lookup 58 (.map (some b)) (.int .i64 x) true).run Try.prog w = .ok (.tuple #[.agg #[], .bool (f x)]) w := by
  obtain ⟨D, hD, hf⟩ := h
  obtain ⟨v, ps, hrun, hv⟩ := hD.look_ok Try.lawI64 Try.underlying58 (Try.zeroUnit w) unitElem_mk (keyI64 hx)
  obtain ⟨rfl, _⟩ := unitElem_inv hv
  rw [hrun, hf x]
theorem FSet.put (h : FSet w b n f) {x : Int} (hx : Fit x) (hn : n < 1000) : ∃ w', (Instr.mapUpdate 58 (.map (some b)) (.int .i64 x) (.agg #[])).run Try.prog w = .ok () w' ∧ FSet w' b (n + 1) (fun y => if y = x then true else f y) ∧ w.grownBy w' (some b) := by
  obtain ⟨D, hD, hf⟩ := h
  obtain ⟨w', hrun, h1, h2⟩ := hD.update Try.lawI64 Try.underlying58 (by unfold maxLen; omega) (keyI64 hx) unitElem_mk
  refine ⟨w', hrun, ⟨_, h1, fun y => ?_⟩, h2⟩
  by_cases e : y = x
  · subst e
    rw [has_put_same hD.isMap (by trivial)]; simp
  · rw [has_put_other (by intro e'; injection e' with _ e'; exact e e'), hf y]; simp [e]
end

def metD (l : List Ds) (k : Nat) (x : Int) : Bool := decide (∃ j, j < k ∧ who l j = x ∧ x ≠ -1)
theorem metD_next {l : List Ds} {k : Nat} (h : who l k ≠ -1) (y : Int) : (if y = who l k then true else metD l k y) = metD l (k + 1) y := by
  unfold metD
  split
  · rename_i e
    exact (decide_eq_true ⟨k, by omega, e.symm, by rw [e]; exact h⟩).symm
  · rename_i e
    rw [decide_eq_decide]
    exact ⟨fun ⟨j, hj, q⟩ => ⟨j, by omega, q⟩, fun ⟨j, hj, q⟩ => ⟨j, by by_cases ej : j = k; (subst ej; exact absurd q.1.symm e); omega, q⟩⟩
theorem metD_skip {l : List Ds} {k : Nat} (h : who l k = -1) (y : Int) : metD l k y = metD l (k + 1) y := by
  unfold metD
  rw [decide_eq_decide]
  exact ⟨fun ⟨j, hj, q⟩ => ⟨j, by omega, q⟩, fun ⟨j, hj, q⟩ => ⟨j, by by_cases ej : j = k; (subst ej; exact absurd (q.1.symm.trans h) q.2); omega, q⟩⟩
theorem okAt_met {l : List Ds} {k : Nat} {x : Ds} (h : dth l k = x) : okAtD l k ↔ okD x ∧ metD l k x.2.2 = false := by
  subst h
  unfold okAtD metD
  rw [decide_eq_false_iff_not]
  constructor
  · rintro ⟨h1, h2⟩
    refine ⟨h1, fun ⟨j, hj, e, hn⟩ => ?_⟩
    have := h1.2.2
    exact h2 j hj (by unfold who; omega) e
  · rintro ⟨h1, h2⟩
    exact ⟨h1, fun j hj h0 e => h2 ⟨j, hj, e, by unfold who at h0; omega⟩⟩

set_option maxRecDepth 100000 in
set_option maxHeartbeats 4000000 in
theorem pcheck_any (A : Option Addr) (n c : Nat) (l : List Ds) (w : World) (hx : Dss w A n c l) :
    Calls Try.prog 26 #[.slice A n c] w (RetB (.int .i64 (if pollOk l then 0 else 1)) w) := by
  have HX := Lib.hid hx
  have LX := Lib.hid hx.1
  have hnc := hx.2.1
  obtain ⟨r, hr⟩ : ∃ r : Int, (if pollOk l then (0 : Int) else 1) = r := ⟨_, rfl⟩
  rw [hr]
  have HR := Lib.hid hr
  clear hx hr
  by_cases hn : 16 < n
  · have HNO : Hid (¬ pollOk l) := Lib.hid (fun q => by have := q.1; have := LX.out; omega)
    go_enter Try.func26, Try.ntmps26
    go_wp2_with fail
    go_ret
    exact ⟨by rw [← HR.out, if_neg HNO.out]; rfl, Below.refl _ _⟩
  · have F0 := Lib.hid ((FSet.made w).same (g := metD l 0) (fun y => by unfold metD; rw [eq_comm, decide_eq_false]; rintro ⟨j, hj, _⟩; omega))
    have B0 := Lib.hid ((Below.refl w.heap.size w).alloc (Nat.le_refl _) (.map #[] 0))
    have HMW := Lib.hid (Nat.le_refl w.heap.size)
    have mk : ∀ w, (Instr.makeMap 58 none).run Try.prog w = .ok (.map (some w.heap.size)) (w.alloc (.map #[] 0)) := fun w => rfl
    go_enter Try.func26, Try.ntmps26
    go_wp2_with fail
    go_loopw [14] (fun t wr => ∃ k : Nat, k ≤ n ∧ t = .int .i64 k ∧ Hid (OkToD l k) ∧ Hid (∃ m, m ≤ k ∧ FSet wr w.heap.size m (metD l k)) ∧ Hid (Below w.heap.size w wr)) (fun t _ => n - (intOf t).toNat)
    case atStart => exact ⟨0, Nat.zero_le _, rfl, Lib.hid (fun i hi => absurd hi (Nat.not_lt_zero _)), Lib.hid ⟨0, Nat.le_refl _, F0.out⟩, B0⟩
    case round =>
      clear F0 B0
      rename World => wr
      obtain ⟨k, hk, rfl, OKK, FS, BW⟩ := hrel
      by_cases hkn : k < n
      · obtain ⟨bA, oA, rfl, hbA, c0, c1, c2⟩ := (HX.out.below BW.out).at_ hkn
        obtain ⟨m, hm, fs⟩ := FS.out
        have hkl : k < l.length := by rw [LX.out]; exact hkn
        obtain ⟨⟨o1, r1, z1⟩, hz⟩ : ∃ x, dth l k = x := ⟨_, rfl⟩
        have fz : Fit z1 := by have := HX.out.fit hkn; rw [hz] at this; exact this
        have hok := okAt_met hz
        rw [hz] at c0 c1 c2
        simp only at c0 c1 c2 hok
        have HW := Lib.hid (who_def l k hz)
        have FZ := Lib.hid fz
        have hbad : ¬ okAtD l k → ¬ pollOk l := fun q h => q (h.2 k hkl)
        have hnext : okAtD l k → OkToD l (k + 1) := fun q i hi => by
          by_cases e : i = k
          · subst e; exact q
          · exact OKK.out i (by omega)
        have b1 := (Below.refl wr.heap.size wr).alloc (Nat.le_refl _) (.cells #[.bool o1, .bool r1, .int .i64 z1] 34)
        have k1 := Bk.new wr 34 #[.bool o1, .bool r1, .int .i64 z1]
        have fs1 := fs.below b1
        have bw1 := below3 BW.out b1
        have hgx : (Instr.lookup 58 (.map (some w.heap.size)) (.int .i64 z1) true).run Try.prog (wr.alloc (.cells #[.bool o1, .bool r1, .int .i64 z1] 34)) = _ := fs1.get fz
        obtain ⟨tw, htw⟩ : ∃ b, metD l k z1 = b := ⟨_, rfl⟩
        rw [htw] at hgx hok
        obtain ⟨gt, hgt⟩ : ∃ g, wr.heap.size = g := ⟨_, rfl⟩
        obtain ⟨V, hV⟩ : ∃ V, wr.alloc (.cells #[.bool o1, .bool r1, .int .i64 z1] 34) = V := ⟨_, rfl⟩
        have lgt : w.heap.size < gt := by rw [← hgt]; exact fs.lt
        rw [hV] at k1 fs1 bw1 hgx
        rw [hgt] at k1
        have HV := Lib.hid hV
        have HGT := Lib.hid hgt
        have K1 := Lib.hid k1
        have HGX := Lib.hid hgx
        have FS1 := Lib.hid fs1
        have BW1 := Lib.hid bw1
        clear hV hgt k1 hgx hz htw fs fs1 bw1 FS BW fz b1
        go_upto_region 7 with fail
        rw [HV.out]
        try rw [HGT.out]
        clear HV HGT c0 c1 c2 hbA
        have q0 : _ = some (Value.bool o1) := K1.out.cell 0
        have q1 : _ = some (Value.bool r1) := K1.out.cell 1
        have q2 : _ = some (Value.int .i64 z1) := K1.out.cell 2
        have lq := K1.out.lt
        have hgx := HGX.out
        have hW := (Below.refl V.heap.size V).alloc (Nat.le_refl _) (.cells #[] 59)
        have KP := Lib.hid (K1.out.below hW K1.out.lt)
        have FSP := Lib.hid (FS1.out.below hW)
        have BL := Lib.hid (below3 BW1.out hW)
        clear hW FS1 BW1 HGX
        go_upto_region 8 with fail
        clear hgx q0 q1 q2 lq K1
        obtain ⟨W, hWW⟩ : ∃ W, V.alloc (.cells #[] 59) = W := ⟨_, rfl⟩
        rw [hWW] at KP FSP BL ⊢
        clear hWW
        cases tw with
        | true =>
          have HNO := Lib.hid (hbad (fun q => by have := (hok.1 q).2; cases this))
          clear hok hbad hnext
          go_wp2_with fail
          go_ret
          exact ⟨by rw [← HR.out, if_neg HNO.out]; rfl, BL.out⟩
        | false =>
          have q0 : _ = some (Value.bool o1) := KP.out.cell 0
          have q1 : _ = some (Value.bool r1) := KP.out.cell 1
          have q2 : _ = some (Value.int .i64 z1) := KP.out.cell 2
          have lq := KP.out.lt
          have HM := Lib.hid (pmay_any o1 r1 z1 W)
          by_cases hmay : okD (o1, r1, z1)
          · rw [decide_eq_true hmay] at HM
            have OKN := Lib.hid (hnext (hok.2 ⟨hmay, rfl⟩))
            clear hok hbad hnext hmay
            go_wp2_with fail
            refine HM.out.mono ?_
            rintro e w2 ⟨rfl, b2⟩
            have KU := Lib.hid (KP.out.below b2 KP.out.lt)
            have FSU := Lib.hid (FSP.out.below b2)
            have BU := Lib.hid (below3 BL.out b2)
            clear b2 KP FSP BL q0 q1 q2 lq HM
            have q2 : _ = some (Value.int .i64 z1) := KU.out.cell 2
            have lq := KU.out.lt
            by_cases h1 : z1 = -1
            · have t1 : (z1 != -1) = false := by simpa using h1
              have F3 := Lib.hid (show ∃ m, m ≤ k + 1 ∧ FSet w2 w.heap.size m (metD l (k + 1)) from ⟨m, by omega, FSU.out.same (fun y => metD_skip (by rw [HW.out]; exact h1) y)⟩)
              clear h1 FSU
              go_wp2_with fail
              go_roundw
              case rel => exact ⟨k + 1, by omega, by go_num, OKN, F3, BU⟩
              case measure => simp [intOf]; omega
            · have t1 : (z1 != -1) = true := by simpa using h1
              obtain ⟨U2, hrun, F2, G2⟩ := FSU.out.put (x := z1) FZ.out (by omega)
              have BB2 := Lib.hid (BU.out.grown G2 BU.out.size (by intro j hj; injection hj with hj; have := HMW.out; omega))
              have F3 := Lib.hid (show ∃ m, m ≤ k + 1 ∧ FSet U2 w.heap.size m (metD l (k + 1)) from ⟨m + 1, by omega, F2.same (fun y => by have := metD_next (l := l) (k := k) (by rw [HW.out]; exact h1) y; rw [HW.out] at this; exact this)⟩)
              clear h1 FSU F2 G2
              go_wp2_with fail
              go_roundw
              case rel => exact ⟨k + 1, by omega, by go_num, OKN, F3, BB2⟩
              case measure => simp [intOf]; omega
          · rw [decide_eq_false hmay] at HM
            have HNO := Lib.hid (hbad (fun q => hmay (hok.1 q).1))
            clear hok hbad hnext hmay
            go_wp2_with fail
            refine HM.out.mono ?_
            rintro e w2 ⟨rfl, b2⟩
            have BU := Lib.hid (below3 BL.out b2)
            clear b2 q0 q1 q2 lq HM
            go_wp2_with fail
            go_ret
            exact ⟨by rw [← HR.out, if_neg HNO.out]; rfl, BU.out⟩
      · obtain rfl : n = k := by omega
        have HOK := Lib.hid (show pollOk l from ⟨by rw [LX.out]; omega, by rw [LX.out]; exact OKK.out⟩)
        go_wp2_with fail
        go_ret
        exact ⟨by rw [← HR.out, if_pos HOK.out]; rfl, BW.out⟩

end Go.Proofs.Ytndbaoiabmldgaa

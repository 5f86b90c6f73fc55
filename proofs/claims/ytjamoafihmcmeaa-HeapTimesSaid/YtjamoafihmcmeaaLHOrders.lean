/-
  The law HeapOrders: in whatever order timers are added, they are the same; one set to another time is as if it had been cancelled, and added: the walk.
-/
import Derived.Test.YtjamoafihmcmeaaLHi
namespace Go.Proofs.Ytjamoafihmcmeaa
open Go.RowKit Go.Maps

theorem Try.zeroBool8 (w : World) : (zeroValue 4).run Try.prog w = .ok (.bool false) w := by kernel_rfl
/-- In block b lies a map from int64 to bool that reads as f (n entries at the most). -/
def BMap (w : World) (b n : Nat) (f : Int → Bool) : Prop :=
  ∃ D : DataW Unit, w.ownsMap Try.prog 2 (plainElem Try.prog 4) b n D ∧ ∀ x, D.atKey (.int .i64 x) (.lit (.bool false)) = .lit (.bool (f x))
section
variable {w w' : World} {b n : Nat} {f : Int → Bool}
theorem BMap.made (w : World) : BMap (w.alloc (.map #[] 0)) w.heap.size 0 fun _ => false :=
  ⟨.map [], World.ownsMap_made w _ _ _, fun _ => rfl⟩
theorem BMap.below (h : BMap w b n f) (hb : Below w.heap.size w w') : BMap w' b n f := by
  obtain ⟨D, hD, hf⟩ := h
  exact ⟨D, hD.kept (row := none) ⟨hb.os, hb.tape, hb.output, hb.size, fun k hk _ => hb.block k hk⟩ (by simp), hf⟩
theorem BMap.lt (h : BMap w b n f) : b < w.heap.size := by obtain ⟨D, hD, _⟩ := h; exact hD.lt
theorem BMap.same {g : Int → Bool} (h : BMap w b n f) (e : ∀ y, f y = g y) : BMap w b n g := by
  obtain ⟨D, hD, hf⟩ := h
  exact ⟨D, hD, fun x => by rw [hf x, e x]⟩
set_option maxRecDepth 100000 in
theorem plainBool_inv {v : Value} {z : DataW Unit × List MemPlace} (h : plainElem Try.prog 4 v = some z) : ∃ x, v = .bool x ∧ z = (.lit (.bool x), []) := by
  unfold plainElem at h
  rw [Try.underlying4] at h
  cases v <;> simp at h
  exact ⟨_, rfl, h.symm⟩
theorem BMap.get (h : BMap w b n f) {x : Int} (hx : Fit x) : (Instr.lookup 53 (.map (some b)) (.int .i64 x) false).run Try.prog w = .ok (.bool (f x)) w := by
  obtain ⟨D, hD, hf⟩ := h
  obtain ⟨v, ps, hrun, hv⟩ := hD.lookup Try.lawI64 Try.underlying53 (Try.zeroBool8 w) (plainElem_bool Try.underlying4 false) (keyI64 hx)
  obtain ⟨y, rfl, hy⟩ := plainBool_inv hv
  simp only [Prod.mk.injEq] at hy
  rw [hf x] at hy
  have : f x = y := by simpa using hy.1
  rw [hrun, this]
theorem BMap.put (h : BMap w b n f) {x : Int} (hx : Fit x) (v : Bool) (hn : n < 1000) : ∃ w', (Instr.mapUpdate 53 (.map (some b)) (.int .i64 x) (.bool v)).run Try.prog w = .ok () w' ∧ BMap w' b (n + 1) (fun y => if y = x then v else f y) ∧ w.grownBy w' (some b) := by
  obtain ⟨D, hD, hf⟩ := h
  obtain ⟨w', hrun, h1, h2⟩ := hD.update Try.lawI64 Try.underlying53 (by unfold maxLen; omega) (keyI64 hx) (plainElem_bool Try.underlying4 v)
  refine ⟨w', hrun, ⟨_, h1, fun y => ?_⟩, h2⟩
  by_cases e : y = x
  · subst e
    rw [atKey_put_same hD.isMap (by trivial)]; simp
  · rw [atKey_put_other (by intro e'; injection e' with _ e'; exact e e'), hf y]; simp [e]
end

def mayB (t : Tm) : Bool := decide (mayT t)
def tookF (l : List Tm) (k : Nat) : List Tm := (l.take k).filter mayB
theorem tookF_few (l : List Tm) (k : Nat) : (tookF l k).length ≤ k := filter_few l k mayB
theorem noTwo_at {l : List Tm} (h : NoTwo l) {i j : Nat} (hij : i < j) (hj : j < l.length) : jA l i ≠ jA l j := by
  unfold NoTwo at h
  rw [List.nodup_iff_pairwise_ne, List.pairwise_iff_getElem] at h
  have := h i j (by rw [List.length_map]; omega) (by rw [List.length_map]; exact hj) hij
  rw [List.getElem_map, List.getElem_map] at this
  unfold jA
  rw [ith_get (by omega), ith_get hj]
  exact this
theorem noTwo_of {l : List Tm} (h : ∀ i j, i < j → j < l.length → jA l i ≠ jA l j) : NoTwo l := by
  unfold NoTwo
  rw [List.nodup_iff_pairwise_ne, List.pairwise_iff_getElem]
  intro i j hi hj hij
  rw [List.length_map] at hi hj
  rw [List.getElem_map, List.getElem_map]
  have := h i j hij hj
  unfold jA at this
  rw [ith_get hi, ith_get hj] at this
  exact this
theorem reset_zero {l : List Tm} {id at_ : Int} (h : (resetR l id at_).1 = 0) : heapOk l ∧ 0 ≤ at_ ∧ at_ ≤ 1125899906842624 ∧ hasId l id := by
  unfold resetR at h
  by_cases h1 : heapOk l ∧ 0 ≤ at_ ∧ at_ ≤ 1125899906842624
  · rw [if_pos h1] at h
    by_cases h2 : hasId l id
    · exact ⟨h1.1, h1.2.1, h1.2.2, h2⟩
    · rw [if_neg h2] at h; exact absurd h (by decide)
  · rw [if_neg h1] at h; exact absurd h (by decide)
/-- One more is added, or it may not be. -/
theorem add_step {l la a : List Tm} {k : Nat} {z : Int} {x : Tm} (hn : NoTwo l) (hk : k < l.length) (hx : ith l k = x) (hl : l.length ≤ 60) (h1 : heapOk la) (h2 : la.Perm (tookF l k)) (s : AddSpec la x z a) :
    (z = 0 ∧ heapOk a ∧ a.Perm (tookF l (k + 1))) ∨ (z = 1 ∧ heapOk la ∧ la.Perm (tookF l (k + 1))) := by
  by_cases hm : mayT x
  · have hni : ¬ hasId la x.2 := by
      rw [hasId_perm h2, hasId_iff]
      intro q
      obtain ⟨t, ht, e⟩ := List.mem_map.1 q
      have ht2 : t ∈ l.take k := (List.mem_filter.1 ht).1
      obtain ⟨j, hj, rfl⟩ := List.mem_iff_getElem.1 ht2
      rw [List.length_take] at hj
      have := noTwo_at hn (i := j) (j := k) (by omega) hk
      unfold jA at this
      rw [ith_get (by omega), hx] at this
      rw [List.getElem_take] at e
      exact this e
    obtain ⟨e0, hk2, hp⟩ := addSpec_ok s h1 hm hni (by rw [h2.length_eq]; have := tookF_few l k; omega)
    refine .inl ⟨e0, hk2, hp.trans ?_⟩
    have e : tookF l (k + 1) = tookF l k ++ [x] := by
      unfold tookF
      rw [filter_yes hk (by rw [hx]; exact decide_eq_true hm), hx]
    rw [e]
    exact (h2.cons x).trans (List.perm_append_singleton x _).symm
  · refine .inr ⟨by rw [s.1, addR, if_neg (fun q => hm q.2)], h1, ?_⟩
    have e : tookF l (k + 1) = tookF l k := by
      unfold tookF
      exact filter_no hk (by rw [hx]; exact decide_eq_false hm)
    rw [e]; exact h2
theorem tookF_all {l : List Tm} {n : Nat} (h : l.length = n) : tookF l n = l.filter mayB := by
  unfold tookF
  rw [← h, List.take_length]
theorem metF_false {l : List Tm} {k : Nat} (h : metF l k (jA l k) = false) (hd : ∀ i j, i < j → j < k → jA l i ≠ jA l j) : ∀ i j, i < j → j < k + 1 → jA l i ≠ jA l j := fun i j hij hj => by
  by_cases e : j = k
  · subst e
    intro q
    exact (of_decide_eq_false h) ⟨i, hij, q⟩
  · exact hd i j hij (by omega)

set_option maxRecDepth 100000 in
set_option maxHeartbeats 8000000 in
theorem lorders_any (A A' : Option Addr) (n c nt ct : Nat) (l : List Tm) (ts : List Int) (id at_ : Int) (w : World) (hx : Tms w A n c l) (hm : nt ≤ 9223372036854775807) (hy : nt ≤ 140737488351232 → Octs w A' nt ts) (f3 : Fit id) (f4 : Fit at_) :
    Calls Try.prog 8 #[.slice A n c, .slice A' nt ct, .int .i64 id, .int .i64 at_] w (TrueAns w) := by
  have HX := Lib.hid hx
  have HY := Lib.hid hy
  have LX := Lib.hid hx.1
  have F3 := Lib.hid f3
  have F4 := Lib.hid f4
  have hnc := hx.2.1
  have mk : ∀ w, (Instr.makeMap 53 none).run Try.prog w = .ok (.map (some w.heap.size)) (w.alloc (.map #[] 0)) := fun w => rfl
  clear hx hy f3 f4
  go_enter Try.func8, Try.ntmps8
  go_wp2_with fail
  refine (live_any _).mono ?_
  rintro e w1 ⟨rfl, b1⟩
  have B1 := Lib.hid b1
  have HX := Lib.hid (HX.out.below b1)
  have HY := Lib.hid (fun h => (HY.out h).below b1)
  clear b1
  by_cases h60 : 60 < n
  · go_wp2_with fail
    go_ret
    exact ⟨rfl, B1.out⟩
  by_cases h100 : 100 < nt
  · go_wp2_with fail
    go_ret
    exact ⟨rfl, B1.out⟩
  have h60' : n ≤ 60 := by omega
  have h100' : nt ≤ 100 := by omega
  have HO := Lib.hid (HY.out (by omega))
  clear HY
  go_wp2_with (at_builtin; refine wpList_append_tms _ rfl _ _ 22 rfl 24 _ rfl Try.underlying22 infoT w1.heap.size none 0 [] 0 rfl rfl (OwnT.nil_ _ _ _) A n c l rfl HX.out (by simp; omega) (Nat.le_refl _) ?_; intro Am cm w2 ho hgr; rw [List.nil_append] at ho ⊢; have b2 : Below w1.heap.size w1 w2 := (Below.refl _ _).grown hgr (Nat.le_refl _) (by intro k hk; simp [Value.ownBlock] at hk); have OM := Lib.hid ho; rw [LX.out]; have HLM := Lib.hid (show l.length = n from LX.out); have HPM := Lib.hid (List.Perm.refl l); have BM := Lib.hid b2; clear ho hgr b2)
  go_loopw [48] (fun t wr => ∃ (k : Nat) (m : List Tm), t = .int .i64 (k : Int) ∧ k ≤ nt ∧ Hid (m.length = n) ∧ Hid (m.Perm l) ∧ Hid (OwnT 24 wr w1.heap.size Am cm m) ∧ Hid (Below w1.heap.size w1 wr)) (fun t _ => nt - (intOf t).toNat)
  case atStart => exact ⟨0, l, rfl, Nat.zero_le _, HLM, HPM, OM, BM⟩
  case round =>
    clear HLM HPM OM BM
    rename World => wr
    obtain ⟨k, m, rfl, hk, HLM, HPM, OM, BM⟩ := hrel
    by_cases hkn : k < nt
    · obtain ⟨bT, oT, rfl, hbT, zall⟩ := (HO.out.below BM.out).2.2.2 (by omega)
      have z0 := zall k hkn
      clear zall
      have hkt : k < ts.length := by rw [HO.out.1]; exact hkn
      have hoct : Oct (nth ts k) := by rw [nth_get hkt]; exact HO.out.2.2.1 _ (List.getElem_mem hkt)
      obtain ⟨z, hz⟩ : ∃ z, nth ts k = z := ⟨_, rfl⟩
      rw [hz] at z0 hoct
      unfold Oct at hoct
      obtain ⟨ho0, ho1⟩ := hoct
      by_cases h0 : n = 0
      · subst h0
        clear hz
        go_wp2_with fail
        go_roundw
        case rel => exact ⟨k + 1, m, by go_num, by omega, HLM, HPM, OM, BM⟩
        case measure => simp only [intOf]; omega
      · have t0 : decide (0 < (n : Int)) = true := decide_eq_true (by omega)
        have hnp : 0 < n := by omega
        obtain ⟨x, hxe⟩ : ∃ x, k % n = x := ⟨_, rfl⟩
        obtain ⟨y, hye⟩ : ∃ y, z.toNat % n = y := ⟨_, rfl⟩
        have hxn : x < n := hxe ▸ Nat.mod_lt _ hnp
        have hyn : y < n := hye ▸ Nat.mod_lt _ hnp
        have e1 : (k : Int) % (n : Int) = (x : Int) := by rw [← hxe]; exact (Int.natCast_emod k n).symm
        have e2 : z % (n : Int) = (y : Int) := by
          rw [← hye, Int.natCast_emod]
          congr 1
          omega
        have e3 : (k : Int).tmod (n : Int) = (x : Int) := by rw [Int.tmod_eq_emod_of_nonneg (by omega)]; exact e1
        have e4 : z.tmod (n : Int) = (y : Int) := by rw [Int.tmod_eq_emod_of_nonneg ho0]; exact e2
        obtain ⟨g, rfl, hg⟩ := OM.out.some_ (by rw [HLM.out]; exact hnp)
        have OR : Hid (RowT wr w1.heap.size g cm m) := OM
        have HXM := Lib.hid (show x < m.length by rw [HLM.out]; exact hxn)
        have HYM := Lib.hid (show y < m.length by rw [HLM.out]; exact hyn)
        obtain ⟨⟨x1, x2⟩, hxv⟩ : ∃ v, ith m x = v := ⟨_, rfl⟩
        obtain ⟨⟨y1, y2⟩, hyv⟩ : ∃ v, ith m y = v := ⟨_, rfl⟩
        obtain ⟨p0, p1⟩ := OR.out.here HXM.out hxv
        have HXV := Lib.hid hxv
        have HYV := Lib.hid hyv
        have hcap := OR.out.cap
        have hmn := HLM.out
        have hcm : n ≤ cm ∧ cm ≤ 9223372036854775807 := by omega
        have HG := Lib.hid hg
        have b1 := (Below.refl wr.heap.size wr).alloc (Nat.le_refl _) (.cells #[.int .i64 x1, .int .i64 x2] 24)
        have k1 := Bk.new wr 24 #[.int .i64 x1, .int .i64 x2]
        obtain ⟨gu, hgu⟩ : ∃ g, wr.heap.size = g := ⟨_, rfl⟩
        have hgg : g < gu := by rw [← hgu]; exact OR.out.lt.2
        obtain ⟨V, hV⟩ : ∃ V, wr.alloc (.cells #[.int .i64 x1, .int .i64 x2] 24) = V := ⟨_, rfl⟩
        rw [hV] at b1 k1
        rw [hgu] at k1
        have OV := Lib.hid (show RowT V w1.heap.size g cm m from OR.out.below b1)
        have BV := Lib.hid (below3 BM.out b1)
        have KV := Lib.hid k1
        have HV := Lib.hid hV
        have HGU := Lib.hid hgu
        clear hV hgu k1 b1 hxv hyv hxe hye hcap hmn OM OR BM hz hg
        go_upto_region 15 with fail
        rw [HV.out]
        try rw [HGU.out]
        clear HV HGU p0 p1 z0 hbT
        obtain ⟨c0, c1, f0, f1⟩ := OV.out.at2 HXM.out
        obtain ⟨d0, d1⟩ := OV.out.here HYM.out HYV.out
        have fx : FitI (x1, x2) := by rw [← HXV.out]; exact OV.out.fit HXM.out
        have fy : FitI (y1, y2) := by rw [← HYV.out]; exact OV.out.fit HYM.out
        have o3 : RowT (put2 V g x (y1, y2)) w1.heap.size g cm (m.set x (y1, y2)) := OV.out.put x fy
        have o4 : RowT (put2 (put2 V g x (y1, y2)) g y (x1, x2)) w1.heap.size g cm ((m.set x (y1, y2)).set y (x1, x2)) := o3.put y fx
        obtain ⟨q0, q1, e0, e5⟩ := o3.at2 (i := y) (by rw [List.length_set]; exact HYM.out)
        have k3 := (KV.out.grown (put2_grown V g x (y1, y2)) (by intro q; injection q with q; omega))
        have r0 : _ = some (Value.int .i64 x1) := k3.cell 0
        have r1 : _ = some (Value.int .i64 x2) := k3.cell 1
        have lr := k3.lt
        have B4 := Lib.hid (BV.out.grown (gb_trans (put2_grown V g x (y1, y2)) (put2_grown (put2 V g x (y1, y2)) g y (x1, x2))) BV.out.size (by intro k hk; injection hk with hk; have := HG.out; omega))
        rw [show (m.set x (y1, y2)).set y (x1, x2) = swapL m x y by unfold swapL; rw [HXV.out, HYV.out]] at o4
        have O4 := Lib.hid o4
        have HL4 := Lib.hid (show (swapL m x y).length = n by rw [swap_len]; exact HLM.out)
        have HP4 := Lib.hid ((swap_perm HXM.out HYM.out).trans HPM.out)
        unfold put2 at O4 B4 q0 q1 e0 e5 r0 r1 lr
        simp only at O4 B4 q0 q1 e0 e5 r0 r1 lr
        clear o3 o4 fx fy k3 OV BV KV
        go_wp2_with fail
        go_roundw
        case rel => exact ⟨k + 1, swapL m x y, by go_num, by omega, HL4, HP4, O4, B4⟩
        case measure => simp only [intOf]; omega
    · have hkn' : k = nt := by omega
      have HKN := Lib.hid hkn'
      have HX := Lib.hid (HX.out.below BM.out)
      have BB := Lib.hid (below3 B1.out BM.out)
      have TM := Lib.hid (show Tms wr Am n cm m from HLM.out ▸ OM.out.tms)
      obtain ⟨b, hb⟩ : ∃ b, wr.heap.size = b := ⟨_, rfl⟩
      have HBB := Lib.hid hb
      have M0 := Lib.hid ((BMap.made wr).same (g := metF l 0) (fun y => by unfold metF; rw [eq_comm, decide_eq_false]; rintro ⟨j, hj, _⟩; omega))
      have D0 := Lib.hid (show ∀ i j, i < j → j < 0 → jA l i ≠ jA l j from fun i j _ hj => absurd hj (Nat.not_lt_zero _))
      have C0 := Lib.hid ((Below.refl wr.heap.size wr).alloc (Nat.le_refl _) (.map #[] 0))
      rw [hb] at M0
      clear hkn' hb BM OM B1
      go_wp2_with fail
      rw [HBB.out]
      go_loopw [84] (fun t wq => ∃ k : Nat, t = .int .i64 (k : Int) ∧ k ≤ n ∧ Hid (∀ i j, i < j → j < k → jA l i ≠ jA l j) ∧ Hid (BMap wq b k (metF l k)) ∧ Hid (Below wr.heap.size wr wq)) (fun t _ => n - (intOf t).toNat)
      case atStart => exact ⟨0, rfl, Nat.zero_le _, D0, M0, C0⟩
      case round =>
        clear D0 M0 C0
        rename World => wq
        obtain ⟨k, rfl, hk, HD, MM, BQ⟩ := hrel
        by_cases hkn : k < n
        · obtain ⟨bA, oA, rfl, hbA, c0, c1⟩ := (HX.out.below BQ.out).at_ hkn
          obtain ⟨fa, fb⟩ := HX.out.fit hkn
          have hkl : k < l.length := by rw [LX.out]; exact hkn
          obtain ⟨x1, hx1⟩ : ∃ z, jO l k = z := ⟨_, rfl⟩
          obtain ⟨x2, hx2⟩ : ∃ z, jA l k = z := ⟨_, rfl⟩
          rw [hx1] at c0 fa
          rw [hx2] at c1 fb
          have HX2 := Lib.hid hx2
          have FX2 := Lib.hid fb
          have k1 := Bk.new wq 24 #[.int .i64 x1, .int .i64 x2]
          have b1 := (Below.refl wq.heap.size wq).alloc (Nat.le_refl _) (.cells #[.int .i64 x1, .int .i64 x2] 24)
          have hbl := MM.out.lt
          obtain ⟨gu, hgu⟩ : ∃ g, wq.heap.size = g := ⟨_, rfl⟩
          have hbg : b < gu := by rw [← hgu]; exact hbl
          have hwb : wr.heap.size ≤ b := by rw [HBB.out]; exact Nat.le_refl _
          obtain ⟨V, hV⟩ : ∃ V, wq.alloc (.cells #[.int .i64 x1, .int .i64 x2] 24) = V := ⟨_, rfl⟩
          rw [hV] at b1 k1
          rw [hgu] at k1
          have MV := Lib.hid (MM.out.below b1)
          have BV := Lib.hid (below3 BQ.out b1)
          have KV := Lib.hid k1
          have HV := Lib.hid hV
          have HGU := Lib.hid hgu
          clear hV hgu k1 b1 hx1 hx2 fa fb hbl MM BQ
          go_upto_region 22 with fail
          rw [HV.out]
          try rw [HGU.out]
          clear HV HGU c0 c1 hbA
          have hget := MV.out.get FX2.out
          obtain ⟨tw, htw⟩ : ∃ q, metF l k x2 = q := ⟨_, rfl⟩
          rw [htw] at hget
          have HTW := Lib.hid htw
          have q0 : _ = some (Value.int .i64 x1) := KV.out.cell 0
          have q1 : _ = some (Value.int .i64 x2) := KV.out.cell 1
          have lq := KV.out.lt
          clear htw
          cases tw with
          | true =>
            have BF := Lib.hid (below3 BB.out BV.out)
            go_wp2_with fail
            go_ret
            exact ⟨rfl, BF.out⟩
          | false =>
            obtain ⟨U, hput, m2, g2⟩ := MV.out.put FX2.out true (by omega)
            have HD2 := Lib.hid (metF_false (l := l) (k := k) (by rw [HX2.out]; exact HTW.out) HD.out)
            have M2 := Lib.hid (m2.same (g := metF l (k + 1)) (fun y => by have := metF_next l k y; rw [HX2.out] at this; exact this))
            have B2 := Lib.hid (BV.out.grown g2 BV.out.size (by intro k hk; injection hk with hk; omega))
            clear m2 g2
            go_wp2_with fail
            go_roundw
            case rel => exact ⟨k + 1, by go_num, by omega, HD2, M2, B2⟩
            case measure => simp only [intOf]; omega
        · have hkn' : k = n := by omega
          have HKN2 := Lib.hid hkn'
          have HNT := Lib.hid (noTwo_of (l := l) (by rw [LX.out, ← hkn']; exact HD.out))
          have HNM := Lib.hid ((noTwo_perm HPM.out).2 HNT.out)
          have HX := Lib.hid (HX.out.below BQ.out)
          have TM := Lib.hid (TM.out.below BQ.out)
          have BB := Lib.hid (below3 BB.out BQ.out)
          have PA := Lib.hid (show heapOk [] ∧ List.Perm [] (tookF l 0) from ⟨heapOk_nil, by unfold tookF; rw [List.take_zero]; exact List.Perm.refl _⟩)
          have PB := Lib.hid (show heapOk [] ∧ List.Perm [] (tookF m 0) from ⟨heapOk_nil, by unfold tookF; rw [List.take_zero]; exact List.Perm.refl _⟩)
          have TA := Lib.hid (Tms.nil_ wq none (c := 0) (by decide))
          have BQ0 := Lib.hid (Below.refl wq.heap.size wq)
          clear hkn' BQ MM HD HBB
          go_wp2_with fail
          go_loopw [99, 10, 11] (fun t u v ws => ∃ (k : Nat) (Aa : Option Addr) (ca : Nat) (la : List Tm) (Ab : Option Addr) (cb : Nat) (lb : List Tm), t = .int .i64 (k : Int) ∧ u = .slice Aa la.length ca ∧ v = .slice Ab lb.length cb ∧ k ≤ n ∧ Hid (heapOk la ∧ la.Perm (tookF l k)) ∧ Hid (heapOk lb ∧ lb.Perm (tookF m k)) ∧ Hid (Tms ws Aa la.length ca la) ∧ Hid (Tms ws Ab lb.length cb lb) ∧ Hid (Below wq.heap.size wq ws)) (fun t _ _ _ => n - (intOf t).toNat)
          case atStart => exact ⟨0, none, 0, [], none, 0, [], rfl, rfl, rfl, Nat.zero_le _, PA, PB, TA, TA, BQ0⟩
          case round =>
            clear PA PB TA BQ0
            rename World => ws
            obtain ⟨k, Aa, ca, la, Ab, cb, lb, rfl, rfl, rfl, hk, PA, PB, TA, TB, BS⟩ := hrel
            by_cases hkn : k < n
            · obtain ⟨bA, oA, rfl, hbA, c0, c1⟩ := (HX.out.below BS.out).at_ hkn
              obtain ⟨fa, fb⟩ := HX.out.fit hkn
              obtain ⟨bM, oM, rfl, hbM, d0, d1⟩ := (TM.out.below BS.out).at_ hkn
              obtain ⟨ga, gb⟩ := TM.out.fit hkn
              have hkl : k < l.length := by rw [LX.out]; exact hkn
              have hkm : k < m.length := by rw [HLM.out]; exact hkn
              obtain ⟨x1, hx1⟩ : ∃ z, jO l k = z := ⟨_, rfl⟩
              obtain ⟨x2, hx2⟩ : ∃ z, jA l k = z := ⟨_, rfl⟩
              obtain ⟨y1, hy1⟩ : ∃ z, jO m k = z := ⟨_, rfl⟩
              obtain ⟨y2, hy2⟩ : ∃ z, jA m k = z := ⟨_, rfl⟩
              have HXK := Lib.hid (show ith l k = (x1, x2) by rw [← hx1, ← hx2]; rfl)
              have HYK := Lib.hid (show ith m k = (y1, y2) by rw [← hy1, ← hy2]; rfl)
              rw [hx1] at c0 fa
              rw [hx2] at c1 fb
              rw [hy1] at d0 ga
              rw [hy2] at d1 gb
              have FA := Lib.hid fa
              have FB := Lib.hid fb
              have GA := Lib.hid ga
              have GB := Lib.hid gb
              have hcm := TM.out.2.1
              have BS0 := BS
              clear hx1 hx2 hy1 hy2 fa fb ga gb
              go_wp2_with fail
              refine (padd_any Aa _ ca la x1 x2 _ TA.out FA.out FB.out).mono ?_
              rintro e w5 ⟨A5, c5, a5, z5, rfl, s5, o5, b5⟩
              have TB := Lib.hid (TB.out.below b5)
              have TA := Lib.hid (TA.out.below b5)
              have BS := Lib.hid (below3 BS.out b5)
              have d0 : _ = some (Value.int .i64 y1) := (b5.cell (p := ⟨bM, _, none⟩) hbM).trans d0
              have d1 : _ = some (Value.int .i64 y2) := (b5.cell (p := ⟨bM, _, none⟩) hbM).trans d1
              have hst := add_step HNT.out hkl HXK.out (by rw [LX.out]; omega) PA.out.1 PA.out.2 s5
              rcases hst with ⟨hz5, hk5, hp5⟩ | ⟨hz5, hk5, hp5⟩
              · subst hz5
                have PA2 := Lib.hid (show heapOk a5 ∧ a5.Perm (tookF l (k + 1)) from ⟨hk5, hp5⟩)
                have TA2 := Lib.hid o5.tms
                clear s5 o5 b5 hk5 hp5 c0 c1 hbA hbM
                go_wp2_with fail
                have q0 := d0
                have q1 := d1
                clear d0 d1
                refine (padd_any Ab _ cb lb y1 y2 _ TB.out GA.out GB.out).mono ?_
                rintro e w6 ⟨A6, c6, a6, z6, rfl, s6, o6, b6⟩
                have TA3 := Lib.hid (TA2.out.below b6)
                have TB3 := Lib.hid (TB.out.below b6)
                have BS3 := Lib.hid (below3 BS.out b6)
                have hst := add_step HNM.out hkm HYK.out (by rw [HLM.out]; omega) PB.out.1 PB.out.2 s6
                rcases hst with ⟨hz6, hk6, hp6⟩ | ⟨hz6, hk6, hp6⟩
                · subst hz6
                  have PB2 := Lib.hid (show heapOk a6 ∧ a6.Perm (tookF m (k + 1)) from ⟨hk6, hp6⟩)
                  have TB4 := Lib.hid o6.tms
                  clear s6 o6 b6 hk6 hp6 q0 q1
                  go_wp2_with fail
                  go_roundw
                  case rel => exact ⟨k + 1, A5, c5, a5, A6, c6, a6, by go_num, rfl, rfl, by omega, PA2, PB2, TA3, TB4, BS3⟩
                  case measure => simp only [intOf]; omega
                · subst hz6
                  have PB2 := Lib.hid (show heapOk lb ∧ lb.Perm (tookF m (k + 1)) from ⟨hk6, hp6⟩)
                  clear s6 o6 b6 hk6 hp6 q0 q1
                  go_wp2_with fail
                  go_roundw
                  case rel => exact ⟨k + 1, A5, c5, a5, Ab, cb, lb, by go_num, rfl, rfl, by omega, PA2, PB2, TA3, TB3, BS3⟩
                  case measure => simp only [intOf]; omega
              · subst hz5
                have PA2 := Lib.hid (show heapOk la ∧ la.Perm (tookF l (k + 1)) from ⟨hk5, hp5⟩)
                have TA2 := TA
                clear s5 o5 b5 hk5 hp5 c0 c1 hbA hbM
                go_wp2_with fail
                have q0 := d0
                have q1 := d1
                clear d0 d1
                refine (padd_any Ab _ cb lb y1 y2 _ TB.out GA.out GB.out).mono ?_
                rintro e w6 ⟨A6, c6, a6, z6, rfl, s6, o6, b6⟩
                have TA3 := Lib.hid (TA2.out.below b6)
                have TB3 := Lib.hid (TB.out.below b6)
                have BS3 := Lib.hid (below3 BS.out b6)
                have hst := add_step HNM.out hkm HYK.out (by rw [HLM.out]; omega) PB.out.1 PB.out.2 s6
                rcases hst with ⟨hz6, hk6, hp6⟩ | ⟨hz6, hk6, hp6⟩
                · subst hz6
                  have PB2 := Lib.hid (show heapOk a6 ∧ a6.Perm (tookF m (k + 1)) from ⟨hk6, hp6⟩)
                  have TB4 := Lib.hid o6.tms
                  clear s6 o6 b6 hk6 hp6 q0 q1
                  go_wp2_with fail
                  go_roundw
                  case rel => exact ⟨k + 1, Aa, ca, la, A6, c6, a6, by go_num, rfl, rfl, by omega, PA2, PB2, TA3, TB4, BS3⟩
                  case measure => simp only [intOf]; omega
                · subst hz6
                  have PB2 := Lib.hid (show heapOk lb ∧ lb.Perm (tookF m (k + 1)) from ⟨hk6, hp6⟩)
                  clear s6 o6 b6 hk6 hp6 q0 q1
                  go_wp2_with fail
                  go_roundw
                  case rel => exact ⟨k + 1, Aa, ca, la, Ab, cb, lb, by go_num, rfl, rfl, by omega, PA2, PB2, TA3, TB3, BS3⟩
                  case measure => simp only [intOf]; omega
            · have hkn' : k = n := by omega
              have HKN3 := Lib.hid hkn'
              have HPP := Lib.hid (show la.Perm lb by
                have h1 := PA.out.2
                have h2 := PB.out.2
                rw [hkn', tookF_all LX.out] at h1
                rw [hkn', tookF_all HLM.out] at h2
                exact h1.trans ((HPM.out.filter mayB).symm.trans h2.symm))
              have hla : la.length ≤ 60 := by rw [PA.out.2.length_eq]; have := tookF_few l k; omega
              have hlb : lb.length ≤ 60 := by rw [PB.out.2.length_eq]; have := tookF_few m k; omega
              have BB := Lib.hid (below3 BB.out BS.out)
              clear hkn'
              go_wp2_with fail
              refine (psame_any Aa Ab _ ca _ cb la lb _ TA.out TB.out (by omega) (by omega)).mono ?_
              rw [decide_eq_true HPP.out]
              rintro e w5 ⟨rfl, b5⟩
              have TA := Lib.hid (TA.out.below b5)
              have BB := Lib.hid (below3 BB.out b5)
              clear b5 TB
              go_wp2_with fail
              refine (preset_any Aa _ ca la id at_ _ TA.out F4.out).mono ?_
              rintro e w6 ⟨A6, c6, a6, z6, rfl, s6, o6, b6⟩
              have TA := Lib.hid (TA.out.below b6)
              have BB := Lib.hid (below3 BB.out b6)
              have T6 := Lib.hid o6.tms
              clear b6 o6
              go_wp2_with fail
              refine (pcancel_any Aa _ ca la id _ TA.out).mono ?_
              rintro e w7 ⟨A7, c7, a7, z7, rfl, s7, o7, b7⟩
              have T6 := Lib.hid (T6.out.below b7)
              have BB := Lib.hid (below3 BB.out b7)
              have T7 := Lib.hid o7.tms
              clear b7 o7
              by_cases hz6 : z6 = 0
              · subst hz6
                obtain ⟨hk6, hp6⟩ := s6.2.2 rfl
                have hr0 := reset_zero s6.1.symm
                obtain ⟨h1, hat0, hat1, hid⟩ := hr0
                have hz7 : z7 = 0 := by rw [s7.1, cancelR, if_pos h1, if_pos hid]
                subst hz7
                obtain ⟨hk7, hp7⟩ := s7.2.2 rfl
                have hmay : mayT (at_, id) := by
                  obtain ⟨j, hj, e⟩ := hid
                  have := (h1.2 j hj).1.2.2
                  unfold jA at e
                  exact ⟨hat0, hat1, by rw [← e]; exact this⟩
                have hni : ¬ hasId a7 id := by
                  rw [hasId_perm hp7, hasId_iff]
                  intro q
                  obtain ⟨t, ht, e⟩ := List.mem_map.1 q
                  have := (List.mem_filter.1 ht).2
                  simp [e] at this
                have hl7 : a7.length ≤ 60 := by rw [hp7.length_eq]; exact Nat.le_trans (List.length_filter_le _ _) hla
                have HK7 := Lib.hid hk7
                have HM7 := Lib.hid hmay
                have HN7 := Lib.hid hni
                have HP6 := Lib.hid hp6
                have HP7 := Lib.hid hp7
                have hl6 : a6.length ≤ 61 := by rw [hp6.length_eq, List.length_cons]; have := List.length_filter_le (fun t : Tm => t.2 != id) la; unfold lessId; omega
                clear s6 s7 hk6 hp6 h1 hat0 hat1 hid hk7 hp7 hmay hni
                go_wp2_with fail
                refine (padd_any A7 _ c7 a7 at_ id _ T7.out F4.out F3.out).mono ?_
                rintro e w8 ⟨A8, c8, a8, z8, rfl, s8, o8, b8⟩
                obtain ⟨hz8, hk8, hp8⟩ := addSpec_ok s8 HK7.out HM7.out HN7.out (by omega)
                subst hz8
                have HQ := Lib.hid (show a6.Perm a8 from HP6.out.trans ((HP7.out.symm.cons _).trans hp8.symm))
                have hl8 : a8.length ≤ 61 := by rw [hp8.length_eq, List.length_cons]; omega
                have T6 := Lib.hid (T6.out.below b8)
                have BB := Lib.hid (below3 BB.out b8)
                have T8 := Lib.hid o8.tms
                clear s8 o8 b8 hk8 hp8
                go_wp2_with fail
                refine (psame_any A6 A8 _ c6 _ c8 a6 a8 _ T6.out T8.out (by omega) (by omega)).mono ?_
                rw [decide_eq_true HQ.out]
                rintro e w9 ⟨rfl, b9⟩
                have BB := Lib.hid (below3 BB.out b9)
                clear b9
                go_wp2_with fail
                go_ret
                exact ⟨rfl, BB.out⟩
              · have t0 : (z6 != 0) = true := by simpa using hz6
                clear hz6 s6 s7
                go_wp2_with fail
                go_ret
                exact ⟨rfl, BB.out⟩

end Go.Proofs.Ytjamoafihmcmeaa

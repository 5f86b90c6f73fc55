/-
  The document's layer 8: Least, Expire.
-/
import Derived.Test.YtjamoafihmcmeaaTh
namespace Go.Proofs.Ytjamoafihmcmeaa
open Go.RowKit

noncomputable def leastR (h : List Tm) : Int × Tm := if heapOk h then (if h.length = 0 then (5, (0, 0)) else (0, ith (orderF h) 0)) else (1, (0, 0))
noncomputable def expireR (h : List Tm) (now : Int) : Int × List Int × List Tm := if heapOk h then (0, ((orderF h).filter (fun t => decide (t.1 ≤ now))).map (·.2), (orderF h).filter (fun t => !decide (t.1 ≤ now))) else (1, [], [])
theorem bk_set2 {W : World} {g : Nat} {t : TypeId} {x0 x1 : Value} (h : Bk W g t #[x0, x1]) (v0 v1 : Value) : Bk ((W.setCell ⟨g, 0, none⟩ v0).setCell ⟨g, 1, none⟩ v1) g t #[v0, v1] := by
  have a0 : Bk (_) g t #[v0, x1] := h.set_ 0 v0
  exact a0.set_ 1 v1
theorem below_set2 {w W : World} (h : Below w.heap.size w W) {g : Nat} (hg : w.heap.size ≤ g) (v0 v1 : Value) : Below w.heap.size w ((W.setCell ⟨g, 0, none⟩ v0).setCell ⟨g, 1, none⟩ v1) :=
  (h.setCell (p := ⟨g, 0, none⟩) hg v0).setCell (p := ⟨g, 1, none⟩) hg v1
set_option maxHeartbeats 2000000 in
theorem least_any (A : Option Addr) (n c : Nat) (l : List Tm) (w : World) (hx : Tms w A n c l) (hn : n ≤ 1000) :
    Calls Try.prog 22 #[.slice A n c] w (RetB (.tuple #[.agg #[.int .i64 (leastR l).2.1, .int .i64 (leastR l).2.2], .int .i64 (leastR l).1]) w) := by
  have HX := Lib.hid hx
  have LX := Lib.hid hx.1
  clear hx
  unfold leastR
  by_cases hok : heapOk l
  · rw [if_pos hok]
    by_cases h0 : n = 0
    · rw [if_pos (LX.out.trans h0)]
      have hb : ((n : Int) == 0) = true := by simp; omega
      clear h0
      have k0 := Bk.new w 24 #[.int .i64 0, .int .i64 0]
      have b0 := (Below.refl w.heap.size w).alloc (Nat.le_refl _) (.cells #[.int .i64 0, .int .i64 0] 24)
      obtain ⟨W, hW⟩ : ∃ W, w.alloc (.cells #[.int .i64 0, .int .i64 0] 24) = W := ⟨_, rfl⟩
      rw [hW] at k0 b0
      have HW := Lib.hid hW
      have K0 := Lib.hid k0
      have B0 := Lib.hid b0
      clear k0 b0 hW
      go_enter Try.func22, Try.ntmps22
      go_upto_region 1 with fail
      rw [HW.out]
      clear HW
      go_wp2_with fail
      refine (rcheck_any A n c l _ (HX.out.below B0.out)).mono ?_
      rw [if_pos hok]
      rintro e w1 ⟨rfl, b1⟩
      have B1 := Lib.hid (below3 B0.out b1)
      have K1 := Lib.hid (K0.out.below b1 K0.out.lt)
      clear b1
      have K9 := Lib.hid (bk_set2 K1.out (.int .i64 0) (.int .i64 0))
      have B9 := Lib.hid (below_set2 B1.out (Nat.le_refl _) (.int .i64 0) (.int .i64 0))
      have q0 := K1.out.c0
      have q1 := K1.out.c1
      have f0 := K1.out.frozen 0
      have f1 := K1.out.frozen 1
      have lq := K1.out.lt
      go_wp2
      have r0 := K9.out.c0
      have r1 := K9.out.c1
      exact bodyPost_ret (v := .tuple #[.agg #[.int .i64 0, .int .i64 0], .int .i64 5]) (by simp [results, Try.results22, go_sem, r0, r1]) rfl ⟨rfl, B9.out⟩
    · rw [if_neg (fun q => h0 (LX.out.symm.trans q))]
      have hb : ((n : Int) == 0) = false := by simp; omega
      have hp : 0 < n := by omega
      have k0 := Bk.new w 24 #[.int .i64 0, .int .i64 0]
      have b0 := (Below.refl w.heap.size w).alloc (Nat.le_refl _) (.cells #[.int .i64 0, .int .i64 0] 24)
      obtain ⟨W, hW⟩ : ∃ W, w.alloc (.cells #[.int .i64 0, .int .i64 0] 24) = W := ⟨_, rfl⟩
      rw [hW] at k0 b0
      have HW := Lib.hid hW
      have K0 := Lib.hid k0
      have B0 := Lib.hid b0
      clear k0 b0 hW
      go_enter Try.func22, Try.ntmps22
      go_upto_region 1 with fail
      rw [HW.out]
      clear HW
      go_wp2_with fail
      refine (rcheck_any A n c l _ (HX.out.below B0.out)).mono ?_
      rw [if_pos hok]
      rintro e w1 ⟨rfl, b1⟩
      have B1 := Lib.hid (below3 B0.out b1)
      have K1 := Lib.hid (K0.out.below b1 K0.out.lt)
      clear b1
      go_wp2_with fail
      refine (order_any A n c l _ (HX.out.below B1.out) hn).mono ?_
      rintro e w3 ⟨A3, c3, rfl, o3, b3⟩
      have B3 := Lib.hid (below3 B1.out b3)
      have K3 := Lib.hid (K1.out.below b3 K1.out.lt)
      have hln : (orderF l).length = n := by rw [orderF_len]; exact LX.out
      obtain ⟨bL, oL, rfl, hbL, c0, c1⟩ := o3.tms.at_ (j := 0) (by omega)
      obtain ⟨z1, hz1⟩ : ∃ z, jO (orderF l) 0 = z := ⟨_, rfl⟩
      obtain ⟨z2, hz2⟩ : ∃ z, jA (orderF l) 0 = z := ⟨_, rfl⟩
      rw [hz1] at c0
      rw [hz2] at c1
      have hz : ith (orderF l) 0 = (z1, z2) := by rw [← hz1, ← hz2]; rfl
      have HZ := Lib.hid hz
      rw [hln]
      simp only [Nat.zero_mul, Nat.add_zero] at c0 c1
      clear o3 b3 hz1 hz2 hz hln
      have K9 := Lib.hid (bk_set2 K3.out (.int .i64 z1) (.int .i64 z2))
      have B9 := Lib.hid (below_set2 B3.out (Nat.le_refl _) (.int .i64 z1) (.int .i64 z2))
      have q0 := K3.out.c0
      have q1 := K3.out.c1
      have f0 := K3.out.frozen 0
      have f1 := K3.out.frozen 1
      have lq := K3.out.lt
      go_wp2
      have r0 := K9.out.c0
      have r1 := K9.out.c1
      exact bodyPost_ret (v := .tuple #[.agg #[.int .i64 z1, .int .i64 z2], .int .i64 0]) (by simp [results, Try.results22, go_sem, r0, r1]) rfl ⟨by rw [HZ.out], B9.out⟩
  · rw [if_neg hok]
    have k0 := Bk.new w 24 #[.int .i64 0, .int .i64 0]
    have b0 := (Below.refl w.heap.size w).alloc (Nat.le_refl _) (.cells #[.int .i64 0, .int .i64 0] 24)
    obtain ⟨W, hW⟩ : ∃ W, w.alloc (.cells #[.int .i64 0, .int .i64 0] 24) = W := ⟨_, rfl⟩
    rw [hW] at k0 b0
    have HW := Lib.hid hW
    have K0 := Lib.hid k0
    have B0 := Lib.hid b0
    clear k0 b0 hW
    go_enter Try.func22, Try.ntmps22
    go_upto_region 1 with fail
    rw [HW.out]
    clear HW
    go_wp2_with fail
    refine (rcheck_any A n c l _ (HX.out.below B0.out)).mono ?_
    rw [if_neg hok]
    rintro e w1 ⟨rfl, b1⟩
    have B1 := Lib.hid (below3 B0.out b1)
    have K1 := Lib.hid (K0.out.below b1 K0.out.lt)
    clear b1
    have K9 := Lib.hid (bk_set2 K1.out (.int .i64 0) (.int .i64 0))
    have B9 := Lib.hid (below_set2 B1.out (Nat.le_refl _) (.int .i64 0) (.int .i64 0))
    have q0 := K1.out.c0
    have q1 := K1.out.c1
    have f0 := K1.out.frozen 0
    have f1 := K1.out.frozen 1
    have lq := K1.out.lt
    go_wp2
    have r0 := K9.out.c0
    have r1 := K9.out.c1
    exact bodyPost_ret (v := .tuple #[.agg #[.int .i64 0, .int .i64 0], .int .i64 1]) (by simp [results, Try.results22, go_sem, r0, r1]) rfl ⟨rfl, B9.out⟩

def ExpR (r : Int × List Int × List Tm) (w : World) (e : Ending) (w' : World) : Prop :=
  ∃ A c B d, e = .returned (.tuple #[.slice A r.2.1.length c, .slice B r.2.2.length d, .int .i64 r.1]) ∧ OwnI 2 w' w.heap.size A c r.2.1 ∧ OwnT 24 w' w.heap.size B d r.2.2 ∧ Below w.heap.size w w'
theorem OwnT.grown {E : TypeId} {w w' : World} {base : Nat} {B : Option Addr} {d : Nat} {p : List Tm} {row : Option Nat} (h : OwnT E w base B d p) (hg : w.grownBy w' row) (hne : (Value.slice B p.length d).ownBlock = none ∨ (Value.slice B p.length d).ownBlock ≠ row) : OwnT E w' base B d p :=
  ⟨h.1, h.2.1, h.2.2.kept hg hne⟩
theorem OwnI.grown8 {E : TypeId} {w w' : World} {base : Nat} {B : Option Addr} {d : Nat} {zs : List Int} {row : Option Nat} (h : OwnI E w base B d zs) (hg : w.grownBy w' row) (hne : (Value.slice B zs.length d).ownBlock = none ∨ (Value.slice B zs.length d).ownBlock ≠ row) : OwnI E w' base B d zs :=
  ⟨h.1, h.2.1, h.2.2.kept hg hne⟩
/-- A row of numbers and a row of timers never share a block. -/
theorem rows_it {E E' : TypeId} {w : World} {b b' : Nat} {A A' : Option Addr} {c c' : Nat} {xs : List Int} {ys : List Tm} (h : OwnI E w b A c xs) (h' : OwnT E' w b' A' c' ys) (hne : E ≠ E') {n n' d d' : Nat} :
    (Value.slice A n d).ownBlock = none ∨ (Value.slice A n d).ownBlock ≠ (Value.slice A' n' d').ownBlock := by
  rcases h.2.2.2 with ⟨e, -⟩ | ⟨g, cap, cur, e, -, hh, -⟩
  · injection e with e _ _
    subst e
    exact .inl (by simp [Value.ownBlock])
  · injection e with e _ _
    subst e
    refine .inr ?_
    rcases h'.2.2.2 with ⟨e', -⟩ | ⟨g', cap', cur', e', -, hh', -⟩
    · injection e' with e' _ _
      subst e'
      simp [Value.ownBlock]
    · injection e' with e' _ _
      subst e'
      intro q
      simp only [Value.ownBlock] at q
      injection q with q
      subst q
      rw [hh] at hh'
      injection hh' with hh'
      injection hh' with _ hh'
      exact hne hh'
/-- Two rows that grow. -/
structure ExI (U wr : World) (A : Option Addr) (c : Nat) (xs : List Int) (B : Option Addr) (d : Nat) (ys : List Tm) : Prop where
  i : OwnI 2 wr U.heap.size A c xs
  o : OwnT 24 wr U.heap.size B d ys
  bl : Below U.heap.size U wr
theorem ty_ne : (2 : TypeId) ≠ 24 := by decide
section
variable {U wr w' : World} {A A' B B' : Option Addr} {c c' d d' : Nat} {xs xs' : List Int} {ys ys' : List Tm}
theorem ExI.below (h : ExI U wr A c xs B d ys) (hb : Below wr.heap.size wr w') : ExI U w' A c xs B d ys := ⟨h.i.below hb, h.o.below hb, below3 h.bl hb⟩
theorem ExI.appT (h : ExI U wr A c xs B d ys) (ho : OwnT 24 w' U.heap.size B' d' ys') (hg : wr.grownBy w' (Value.slice B ys.length d).ownBlock) : ExI U w' A c xs B' d' ys' :=
  ⟨h.i.grown8 hg (rows_it h.i h.o ty_ne), ho, h.bl.grown hg h.bl.size (fun j hj => h.o.block j hj)⟩
theorem ExI.appI (h : ExI U wr A c xs B d ys) (ho : OwnI 2 w' U.heap.size A' c' xs') (hg : wr.grownBy w' (Value.slice A xs.length c).ownBlock) : ExI U w' A' c' xs' B d ys :=
  ⟨ho, h.o.grown hg (by rcases rows_it h.i h.o ty_ne (n := xs.length) (d := c) (n' := ys.length) (d' := d) with q | q
                        · rw [q]; cases (Value.slice B ys.length d).ownBlock <;> simp
                        · exact .inr (Ne.symm q)), h.bl.grown hg h.bl.size (fun j hj => h.i.block j hj)⟩
end
theorem infoI8 : (Try.prog.info? 2).map (fun i => (i.zero, i.size, i.bytes)) = some (some (.int .i64 0), 1, 8) := by kernel_rfl
set_option maxHeartbeats 2000000 in
theorem expire_any (A : Option Addr) (n c : Nat) (l : List Tm) (now : Int) (w : World) (hx : Tms w A n c l) (hn : n ≤ 1000) :
    Calls Try.prog 24 #[.slice A n c, .int .i64 now] w (ExpR (expireR l now) w) := by
  have HX := Lib.hid hx
  have LX := Lib.hid hx.1
  clear hx
  unfold expireR
  by_cases hok : heapOk l
  · rw [if_pos hok]
    go_enter Try.func24, Try.ntmps24
    go_wp2_with fail
    refine (rcheck_any A n c l _ HX.out).mono ?_
    rw [if_pos hok]
    rintro e w1 ⟨rfl, b1⟩
    have B1 := Lib.hid b1
    clear b1
    go_wp2_with fail
    refine (order_any A n c l _ (HX.out.below B1.out) hn).mono ?_
    rintro e w3 ⟨A3, c3, rfl, o3, b3⟩
    have O3 := Lib.hid o3
    have B3 := Lib.hid (below3 B1.out b3)
    clear o3 b3
    have hln : (orderF l).length = n := by rw [orderF_len]; exact LX.out
    obtain ⟨L, hL⟩ : ∃ L, orderF l = L := ⟨_, rfl⟩
    rw [hL] at O3 hln
    have HL := Lib.hid hL
    have T3 := Lib.hid O3.out.tms
    have LL := Lib.hid hln
    rw [hL, hln]
    rw [hln] at T3
    clear hL hln
    go_wp2_with fail
    go_loopw [7, 8, 17] (fun u7 u8 t wr => ∃ k : Nat, k ≤ n ∧ t = .int .i64 k ∧ ∃ Ai ci Ao co xs ys, xs = ((L.take k).filter (fun t => decide (t.1 ≤ now))).map (·.2) ∧ ys = (L.take k).filter (fun t => !decide (t.1 ≤ now)) ∧ u7 = .slice Ai xs.length ci ∧ u8 = .slice Ao ys.length co ∧ Hid (ExI w3 wr Ai ci xs Ao co ys)) (fun _ _ t _ => n - (intOf t).toNat)
    case atStart => exact ⟨0, Nat.zero_le _, rfl, none, 0, none, 0, [], [], rfl, rfl, rfl, rfl, Lib.hid ⟨OwnI.nil_ _ _ _, OwnT.nil_ _ _ _, Below.refl _ _⟩⟩
    case round =>
      rename World => wr
      obtain ⟨k, hk, rfl, Ai, ci, Ao, co, xs, ys, hxs, hys, rfl, rfl, WI⟩ := hrel
      by_cases hkn : k < n
      · obtain ⟨bL, oL, rfl, hbL, c0, c1⟩ := (T3.out.below WI.out.bl).at_ hkn
        obtain ⟨fa, fb⟩ := T3.out.fit hkn
        have hkl : k < L.length := by rw [LL.out]; exact hkn
        have hyl : ys.length ≤ k := by rw [hys]; exact filter_few _ _ _
        have hxl : xs.length ≤ k := by rw [hxs, List.length_map]; exact filter_few _ _ _
        obtain ⟨z1, hz1⟩ : ∃ z, jO L k = z := ⟨_, rfl⟩
        obtain ⟨z2, hz2⟩ : ∃ z, jA L k = z := ⟨_, rfl⟩
        rw [hz1] at c0 fa
        rw [hz2] at c1 fb
        have hz : ith L k = (z1, z2) := by rw [← hz1, ← hz2]; rfl
        have HZ := Lib.hid hz
        have FA := Lib.hid fa
        have FB := Lib.hid fb
        have HXS := Lib.hid hxs
        have HYS := Lib.hid hys
        have ka := Bk.new wr 24 #[.int .i64 z1, .int .i64 z2]
        have W2 := WI.out.below ((Below.refl wr.heap.size wr).alloc (Nat.le_refl _) (.cells #[.int .i64 z1, .int .i64 z2] 24))
        obtain ⟨g, hg⟩ : ∃ g, wr.heap.size = g := ⟨_, rfl⟩
        obtain ⟨V, hV⟩ : ∃ V, wr.alloc (.cells #[.int .i64 z1, .int .i64 z2] 24) = V := ⟨_, rfl⟩
        rw [hV] at ka W2
        rw [hg] at ka
        have HV := Lib.hid hV
        have HG := Lib.hid hg
        have KA := Lib.hid ka
        have W2 := Lib.hid W2
        clear hV hg ka hz1 hz2 fa fb hz hys hxs
        go_upto_region 8 with fail
        rw [HV.out]
        try rw [HG.out]
        clear HV HG c0 c1 WI hbL
        have a0 : _ = some (Value.int .i64 z1) := KA.out.cell 0
        have a1 : _ = some (Value.int .i64 z2) := KA.out.cell 1
        have la := KA.out.lt
        have hsz : w3.heap.size ≤ V.heap.size := W2.out.bl.size
        by_cases he : z1 ≤ now
        · have heb : decide (z1 ≤ now) = true := decide_eq_true he
          have HYN : Hid (ys = (L.take (k + 1)).filter (fun t => !decide (t.1 ≤ now))) := Lib.hid (by rw [HYS.out]; exact (filter_no hkl (by rw [HZ.out]; simp [heb])).symm)
          have HXN : Hid (xs ++ [z2] = ((L.take (k + 1)).filter (fun t => decide (t.1 ≤ now))).map (·.2)) := Lib.hid (by rw [HXS.out, filter_yes hkl (by rw [HZ.out]; exact heb), List.map_append, HZ.out]; rfl)
          have W4 := Lib.hid (W2.out.below ((Below.refl V.heap.size V).alloc (Nat.le_refl _) (.cells #[.int .i64 z2] 2)))
          have T1 := Lib.hid (ints1 V 2 FB.out)
          clear he W2 KA
          go_wp2_with (at_builtin; refine wpList_append_ints _ rfl _ _ 37 rfl 2 Try.underlying37 infoI8 w3.heap.size Ai ci xs _ rfl rfl W4.out.i (some ⟨V.heap.size, 0, none⟩) 1 1 [z2] rfl T1.out (by omega) (by simp; omega) ?_; intro A2 c2 w4 ho hgr; have W5 := Lib.hid (ExI.appI W4.out ho hgr); clear ho hgr a0 a1 la T1 W4)
          go_roundw
          case rel => exact ⟨k + 1, by omega, by go_num, A2, c2, Ao, co, _, ys, HXN.out, HYN.out, by simp, rfl, W5⟩
          case measure => simp [intOf]; omega
        · have heb : decide (z1 ≤ now) = false := decide_eq_false he
          have HXN : Hid (xs = ((L.take (k + 1)).filter (fun t => decide (t.1 ≤ now))).map (·.2)) := Lib.hid (by rw [HXS.out, filter_no hkl (by rw [HZ.out]; exact heb)])
          have HYN : Hid (ys ++ [(z1, z2)] = (L.take (k + 1)).filter (fun t => !decide (t.1 ≤ now))) := Lib.hid (by rw [HYS.out, ← HZ.out]; exact (filter_yes hkl (by rw [HZ.out]; simp [heb])).symm)
          have W4 := Lib.hid (W2.out.below ((Below.refl V.heap.size V).alloc (Nat.le_refl _) (.cells #[.int .i64 z1, .int .i64 z2] 24)))
          have T1 := Lib.hid (tms1 V 24 FA.out FB.out)
          clear he W2 KA
          go_wp2_with (at_builtin; refine wpList_append_tms _ rfl _ _ 22 rfl 24 _ rfl Try.underlying22 infoT w3.heap.size Ao co ys _ rfl rfl W4.out.o (some ⟨V.heap.size, 0, none⟩) 1 1 [(z1, z2)] rfl T1.out (by omega) (by simp; omega) ?_; intro A2 c2 w4 ho hgr; have W5 := Lib.hid (ExI.appT W4.out ho hgr); clear ho hgr a0 a1 la T1 W4)
          go_roundw
          case rel => exact ⟨k + 1, by omega, by go_num, Ai, ci, A2, c2, xs, _, HXN.out, HYN.out, rfl, by simp, W5⟩
          case measure => simp [intOf]; omega
      · obtain rfl : n = k := by omega
        have ex : xs = ((orderF l).filter (fun t => decide (t.1 ≤ now))).map (·.2) := by rw [hxs, ← LL.out, List.take_length, HL.out]
        have ey : ys = (orderF l).filter (fun t => !decide (t.1 ≤ now)) := by rw [hys, ← LL.out, List.take_length, HL.out]
        subst ex ey
        clear hxs hys
        go_wp2
        exact bodyPost_ret (v := .tuple #[.slice Ai (((orderF l).filter (fun t => decide (t.1 ≤ now))).map (·.2)).length ci, .slice Ao ((orderF l).filter (fun t => !decide (t.1 ≤ now))).length co, .int .i64 0]) (by simp [results, Try.results24, go_sem]) rfl ⟨Ai, ci, Ao, co, rfl, WI.out.i.base B3.out.size, WI.out.o.base B3.out.size, below3 B3.out WI.out.bl⟩
  · rw [if_neg hok]
    go_enter Try.func24, Try.ntmps24
    go_wp2_with fail
    refine (rcheck_any A n c l _ HX.out).mono ?_
    rw [if_neg hok]
    rintro e w1 ⟨rfl, b1⟩
    have B1 := Lib.hid b1
    clear b1
    go_wp2
    exact bodyPost_ret (v := .tuple #[.slice none 0 0, .slice none 0 0, .int .i64 1]) (by simp [results, Try.results24, go_sem]) rfl ⟨none, 0, none, 0, rfl, OwnI.nil_ _ _ _, OwnT.nil_ _ _ _, B1.out⟩

end Go.Proofs.Ytjamoafihmcmeaa

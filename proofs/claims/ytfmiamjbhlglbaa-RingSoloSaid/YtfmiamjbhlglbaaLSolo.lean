/-
  The law RingSolo of layer 7, walked: one by one a deque is a list.
-/
import Derived.Test.YtfmiamjbhlglbaaSm
namespace Go.Proofs.Ytfmiamjbhlglbaa
open Go.RowKit

set_option maxRecDepth 100000 in
set_option maxHeartbeats 2000000 in
theorem lsolo_out (rm at_ : Int) (A : Option Addr) (n c : Nat) (w : World) (hn : n ≤ 9223372036854775807) (h : rm < 1 ∨ 8 < rm ∨ at_ < 0 ∨ 1073741824 < at_ ∨ 100 < n) :
    Calls Try.prog 5 #[.int .i64 rm, .int .i64 at_, .slice A n c] w (TrueAns w) := by
  have hw : rm < 1 ∨ (¬ rm < 1 ∧ 8 < rm) ∨ (¬ rm < 1 ∧ ¬ 8 < rm ∧ at_ < 0) ∨ (¬ rm < 1 ∧ ¬ 8 < rm ∧ ¬ at_ < 0 ∧ 1073741824 < at_) ∨ (¬ rm < 1 ∧ ¬ 8 < rm ∧ ¬ at_ < 0 ∧ ¬ 1073741824 < at_ ∧ 100 < n) := by omega
  clear h
  rcases hw with g0 | ⟨g0, g1⟩ | ⟨g0, g1, g2⟩ | ⟨g0, g1, g2, g3⟩ | ⟨g0, g1, g2, g3, g4⟩
  all_goals
    go_enter Try.func5, Try.ntmps5
    go_wp2_with fail
    refine (live_any _).mono ?_
    rintro e w1 ⟨rfl, b1⟩
    have B1 := Lib.hid b1
    clear b1
    go_wp2
    go_ret
    exact ⟨rfl, B1.out⟩

set_option maxRecDepth 100000 in
set_option maxHeartbeats 8000000 in
theorem lsolo_go (rm a0 : Nat) (A0 : Option Addr) (n c0 : Nat) (os : List Int) (w : World) (h1 : 1 ≤ rm) (h8 : rm ≤ 8) (ha : a0 ≤ 1073741824) (hn : n ≤ 100) (hx : I8s w A0 n os) :
    Calls Try.prog 5 #[.int .i64 rm, .int .i64 a0, .slice A0 n c0] w (TrueAns w) := by
  have mk := mkM (rm + 4) (by omega)
  simp only [Int.natCast_add] at mk
  have mk : ∀ W : World, (Instr.makeSlice 23 (.int .i64 ((rm : Int) + 4)) (.int .i64 ((rm : Int) + 4))).run Try.prog W = .ok (.slice (some ⟨W.heap.size, 0, none⟩) (rm + 4) (rm + 4)) (W.alloc (.cells (madeCells #[.int .i64 0] (rm + 4)) 2)) := mk
  obtain ⟨zz, hzz⟩ : ∃ z, madeCells #[Value.int .i64 0] (rm + 4) = z := ⟨_, rfl⟩
  rw [hzz] at mk
  have HZ := Lib.hid hzz
  have HX := Lib.hid hx
  have HF : Hid (Fit (a0 : Int)) := Lib.hid ⟨by omega, by omega⟩
  clear hzz hx
  go_enter Try.func5, Try.ntmps5
  go_wp2_with fail
  refine (live_any _).mono ?_
  rintro e wa ⟨rfl, ba⟩
  have kq := Bk.new wa 25 #[.int .i64 1, .int .i64 rm]
  have bq := (Below.refl wa.heap.size wa).alloc (Nat.le_refl _) (.cells #[.int .i64 1, .int .i64 rm] 25)
  have oz := lies_zeros (wa.alloc (.cells #[.int .i64 1, .int .i64 rm] 25)) (wa.heap.size + 1) (rm + 4) (by simp) (by omega) zz HZ.out
  rw [size_alloc] at oz
  obtain ⟨cz1, fz1⟩ := oz.at_ (j := 1) (by simp)
  obtain ⟨cz2, fz2⟩ := oz.at_ (j := 2) (by simp)
  have lz := oz.lt
  have kz := Bk.new (wa.alloc (.cells #[.int .i64 1, .int .i64 rm] 25)) 2 zz
  rw [size_alloc] at kz
  have hz1 : zz[1]? = some (Value.int .i64 (nth (List.replicate (rm + 4) 0) 1)) := (kz.cell 1).symm.trans cz1
  have hz2 : zz[2]? = some (Value.int .i64 (nth (List.replicate (rm + 4) 0) 2)) := (kz.cell 2).symm.trans cz2
  clear kz cz1 cz2 fz1 fz2 lz
  have o1 := (oz.set_ 1 HF.out).set_ 2 HF.out
  have kq2 := ((kq.alloc (.cells zz 2)).far (p := ⟨wa.heap.size + 1, 1, none⟩) (by simp) (.int .i64 a0)).far (p := ⟨wa.heap.size + 1, 2, none⟩) (by simp) (.int .i64 a0)
  have b2 := (((bq.alloc (by simp) (.cells zz 2)).setCell (p := ⟨wa.heap.size + 1, 1, none⟩) (by simp) (.int .i64 a0)).setCell (p := ⟨wa.heap.size + 1, 2, none⟩) (by simp) (.int .i64 a0))
  have HMS : Hid (((List.replicate (rm + 4) (0 : Int)).set 1 a0).set 2 a0 = ((List.replicate (rm + 4) (0 : Int)).set 1 a0).set 2 a0) := Lib.hid rfl
  obtain ⟨ms0, hms⟩ : ∃ x, ((List.replicate (rm + 4) (0 : Int)).set 1 a0).set 2 a0 = x := ⟨_, rfl⟩
  rw [hms] at o1
  have hml : ms0.length = rm + 4 := by rw [← hms]; simp
  have hmn : ∀ j, j < rm + 4 → nth ms0 j = if j = 1 ∨ j = 2 then (a0 : Int) else 0 := by
    intro j hj
    rw [← hms, nth_setR _ _ _ _ (by simp; omega), nth_setR _ _ _ _ (by simp; omega)]
    by_cases e2 : 2 = j
    · rw [if_pos e2, if_pos (.inr e2.symm)]
    · by_cases e1 : 1 = j
      · rw [if_neg e2, if_pos e1, if_pos (.inl e1.symm)]
      · rw [if_neg e2, if_neg e1, if_neg (by omega)]
        simp [nth, List.getD, hj]
  have dq0 : DqI ms0 1 rm a0 [] := ⟨⟨h1, by rw [hml]; omega, by rw [hmn 1 (by omega)]; simp, by simp, by simp⟩, by rw [hmn 2 (by omega)]; simp, fun k hk => by simp at hk, by simp; omega⟩
  have I0 : ∀ W : World, Ints W (some ⟨wa.heap.size + 1, 0, none⟩) ms0.length ms0 → Bk W wa.heap.size 25 #[.int .i64 1, .int .i64 rm] → SlI W W wa.heap.size rm a0 0 (some ⟨wa.heap.size + 1, 0, none⟩) ms0 none 0 [] a0 := fun W hi hk => ⟨hi, hml, OwnQ.nil_ _ _ _, hk, Below.refl _ _, dq0, by simp, by rw [hmn 0 (by omega)]; simp, by rw [hmn (rm + 3) (by omega), if_neg (by omega)]⟩
  have o1i := o1.ints
  obtain ⟨V, hV⟩ : ∃ V, (((wa.alloc (.cells #[.int .i64 1, .int .i64 rm] 25)).alloc (.cells zz 2)).setCell ⟨wa.heap.size + 1, 1, none⟩ (.int .i64 a0)).setCell ⟨wa.heap.size + 1, 2, none⟩ (.int .i64 a0) = V := ⟨_, rfl⟩
  rw [hV] at o1i kq2 b2
  rw [World.setCell_alloc_at _ _ _ _ _ (by simp), World.setCell_alloc_at _ _ _ _ _ (by simp)] at hV
  have HV := Lib.hid hV
  have I1 := Lib.hid (I0 _ o1i kq2)
  have BW := Lib.hid (below3 ba b2)
  have X1 := Lib.hid (HX.out.below BW.out)
  have hq1 : MayQ (rm + 4) 1 rm := ⟨by omega, by omega, by omega, by omega, by omega, by omega⟩
  have lq := kq2.lt
  clear I0 dq0 hmn hms HMS b2 kq2 o1 oz bq kq ba hV o1i hml
  go_wp2
  rw [HV.out]
  clear HV hz1 hz2 mk HZ HF
  go_loopw [9, 10, 58] (fun tm tl ti wr => ∃ (i : Nat) (A : Option Addr) (c : Nat) (ms : List Int) (Al : Option Addr) (cl : Nat) (l : List Int) (tp : Nat), i ≤ n ∧ ti = .int .i64 i ∧ tm = .slice A (rm + 4) c ∧ tl = .slice Al l.length cl ∧ Hid (SlI wr V wa.heap.size rm a0 i A ms Al cl l tp)) (fun _ _ t _ => n - (intOf t).toNat)
  case atStart => exact ⟨0, _, _, ms0, none, 0, [], a0, Nat.zero_le _, rfl, rfl, rfl, I1⟩
  case round =>
    obtain ⟨i, A, c, ms, Al, cl, l, tp, hin, rfl, rfl, rfl, IJ⟩ := hrel
    by_cases hlt : i < n
    · obtain ⟨o, ho⟩ : ∃ o, nth os i = o := ⟨_, rfl⟩
      have hbl := IJ.out.bl
      have kq := IJ.out.q
      have q0 : _ = some (Value.int .i64 1) := kq.cell 0
      have q1 : _ = some (Value.int .i64 rm) := kq.cell 1
      have lq1 := kq.lt
      have hX := X1.out.below hbl
      obtain ⟨bo, oo, rfl, hbo, hco⟩ := hX.2.2 (by omega)
      have co := hco i hlt
      rw [ho] at co
      have HL := Lib.hid IJ.out.ln
      have hI := IJ.out.im
      have hin1 : i + 1 ≤ n := by omega
      have HVW : Hid (V.heap.size ≤ wr.heap.size) := Lib.hid hbl.size
      clear ho hX hco hbo hbl kq
      have hfi : Fit ((i : Int) + 100) := ⟨by omega, by omega⟩
      have hmq : MayQ ms.length ((1 : Nat) : Int) rm := by rw [HL.out]; exact hq1
      have key : ∀ (k : Int), 0 < pcsF k → ∀ (ms2 : List Int) (h2 : Hd), soloF 1 rm 8 ms (newH k ((i : Int) + 100)) = some (ms2, h2) → h2.state ≠ 0 →
          Calls Try.prog 19 #[.slice A (rm + 4) c, .agg #[.int .i64 1, .int .i64 rm], .int .i64 k, .int .i64 ((i : Int) + 100)] wr (DoneOf ms2 h2 wr) := by
        intro k hk ms2 h2 hs hst
        rw [← HL.out]
        exact done_any A c 1 rm ms k _ wr hI hmq hk hfi ms2 h2 hs hst
      have KEY := Lib.hid key
      have DQ := Lib.hid IJ.out.dq
      have hfew := IJ.out.few
      have HT : Hid (tp + l.length + 1 < 1099511627776) := Lib.hid (by omega)
      have HFW := Lib.hid hfew
      have ROOM : Hid (l.length ≤ rm) := Lib.hid (by have := IJ.out.dq.rg.room; omega)
      clear hI hmq key hfi hfew
      by_cases g0 : o < 0
      · by_cases g1 : o < -64
        · by_cases gf : l.length = 0
          · have hl0 : l.length = 0 := by omega
            obtain ⟨ms2, h2, tp2, hS, hst, hvv, hdq, hle, hlen, hk0, hk1⟩ : ∃ (ms2 : List Int) (h2 : Hd) (tp2 : Nat), soloF 1 rm 8 ms (newH 3 ((i : Int) + 100)) = some (ms2, h2) ∧ h2.state = 2 ∧ True ∧ DqI ms2 1 rm tp2 l ∧ tp2 + l.length ≤ tp + l.length + 1 ∧ ms2.length = ms.length ∧ (nth ms2 0 = nth ms 0 ∧ nth ms2 (rm + 3) = nth ms (rm + 3)) := by
              have hnil : l = [] := List.eq_nil_of_length_eq_zero (by omega)
              have dq := DQ.out
              rw [hnil] at dq
              obtain ⟨h2, s1, s2, -⟩ := solo_steal_none dq ((i : Int) + 100)
              exact ⟨ms, h2, tp, s1, s2, trivial, DQ.out, by omega, rfl, rfl, rfl⟩
            have hl2 : ms2.length = rm + 4 := hlen.trans HL.out
            have hD := KEY.out 3 (by decide) ms2 h2 hS (by rw [hst]; decide)
            obtain ⟨k1, p1, v1, t1, b1, wn1, s1⟩ := h2
            simp only at hst hvv
            obtain rfl : s1 = 2 := hst
            have HD := Lib.hid hD
            have HS2 := Lib.hid hdq
            have HLE := Lib.hid hle
            have HL2 := Lib.hid hl2
            have HK0 := Lib.hid (hk0.trans IJ.out.z0)
            have HK1 := Lib.hid (hk1.trans IJ.out.z1)
            clear hS hD hdq hle hlen hk0 hk1 hl2 hvv
            have e0 : ((l.length : Int) == 0) = true := by rw [hl0]; rfl
            clear hl0 gf
            go_wp2_with fail
            refine HD.out.mono ?_
            rintro e w2 ⟨A2, c2, rfl, o2, b2⟩
            rw [HL2.out]
            unfold hv
            obtain ⟨g2, rfl, hg2, hg2l, -, -⟩ := o2.form (by rw [HL2.out]; omega)
            have ba := (Below.refl w2.heap.size w2).alloc (Nat.le_refl _) (.cells #[.int .i64 k1, .int .i64 p1, .int .i64 v1, .int .i64 t1, .int .i64 b1, .bool wn1, .int .i64 2] 27)
            have kn := Bk.new w2 27 #[.int .i64 k1, .int .i64 p1, .int .i64 v1, .int .i64 t1, .int .i64 b1, .bool wn1, .int .i64 2]
            have hw23 : (w2.alloc (.cells #[.int .i64 k1, .int .i64 p1, .int .i64 v1, .int .i64 t1, .int .i64 b1, .bool wn1, .int .i64 2] 27)).heap.size = w2.heap.size + 1 := by simp
            have qq := (IJ.out.ql.below b2).below ba
            have kq := (IJ.out.q.below b2 IJ.out.q.lt).below ba (by have := b2.size; have := IJ.out.q.lt; omega)
            have oo2 := o2.below ba
            have bl3 := below3 (below3 IJ.out.bl b2) ba
            have hz2 : wr.heap.size ≤ w2.heap.size := b2.size
            clear ba o2 b2 q0 q1 lq1 co
            have hlf : listF ms2 1 rm = (0, l) := dq_list HS2.out (by rw [HL2.out]; exact hq1)
            have HLF := Lib.hid hlf
            clear hlf
            have q0 : _ = some (Value.int .i64 1) := kq.cell 0
            have q1 : _ = some (Value.int .i64 rm) := kq.cell 1
            have lq1 := kq.lt
            have QQ := Lib.hid qq
            have KQ := Lib.hid kq
            have O2 := Lib.hid oo2
            have BL := Lib.hid bl3
            have KN := Lib.hid kn
            clear qq kq oo2 bl3 kn
            go_wp2_with fail
            refine (list_any _ (rm + 4) c2 1 rm ms2 _ (HL2.out ▸ O2.out.ints) (by unfold Fit; omega) ⟨by omega, by omega⟩).mono ?_
            rw [HLF.out]
            rintro e w6 ⟨A6, c6, rfl, o6, b6⟩
            simp only []
            have kn := KN.out.below b6 KN.out.lt
            have s6 : _ = some (Value.int .i64 2) := kn.cell 6
            have lkn := kn.lt
            have Q6 := QQ.out.below b6
            have O6 := O2.out.below b6
            have K6 := KQ.out.below b6 KQ.out.lt
            have B6 := below3 BL.out b6
            have i6 := o6.ints
            have iq6 : Ints w6 Al l.length l := Q6.ints
            have HS := Lib.hid (rsame_any A6 Al _ c6 _ cl l l w6 i6 iq6)
            have QX := Lib.hid Q6
            have OX := Lib.hid O6
            have KX := Lib.hid K6
            have BX := Lib.hid B6
            clear Q6 O6 K6 B6 i6 iq6 kn b6 o6 q0 q1 lq1
            go_wp2_with fail
            refine HS.out.mono ?_
            rintro e w7 ⟨rfl, kk, rfl⟩
            rw [show sameB l l = true from sameB_all rfl rfl (fun _ _ => rfl)]
            have OY := OX.out.below (below_drewN (Below.refl w6.heap.size w6) kk)
            have cA := (OY.at_ (j := 0) (by rw [HL2.out]; omega)).1
            have cB := (OY.at_ (j := rm + 3) (by rw [HL2.out]; omega)).1
            rw [HK0.out] at cA
            rw [HK1.out] at cB
            have IM := Lib.hid (HL2.out ▸ OY.ints : Ints (w6.drewN kk) (some ⟨g2, 0, none⟩) ms2.length ms2)
            have QZ := Lib.hid (QX.out.below (below_drewN (Below.refl w6.heap.size w6) kk))
            have KZ := Lib.hid (KX.out.below (below_drewN (Below.refl w6.heap.size w6) kk) KX.out.lt)
            have BZ := Lib.hid (below_drewN BX.out kk)
            clear OY s6 lkn
            go_wp2
            go_roundw
            case rel => exact ⟨i + 1, some ⟨g2, 0, none⟩, c2, ms2, Al, cl, l, tp2, hin1, by go_num, rfl, rfl, Lib.hid ⟨IM.out, HL2.out, QZ.out, KZ.out, BZ.out, HS2.out, by have h1 := HLE.out; have h2 := HFW.out; omega, HK0.out, HK1.out⟩⟩
            case measure => simp [intOf]; omega
          · obtain ⟨q, hq⟩ : ∃ q, l.length = q + 1 := ⟨l.length - 1, by omega⟩
            obtain ⟨gl, ol, rfl, hgb, hgl, hlc, hcm⟩ := IJ.out.ql.form (by omega)
            obtain ⟨ms2, h2, tp2, hS, hst, hvv, hdq, hle, hlen, hk0, hk1⟩ : ∃ (ms2 : List Int) (h2 : Hd) (tp2 : Nat), soloF 1 rm 8 ms (newH 3 ((i : Int) + 100)) = some (ms2, h2) ∧ h2.state = 1 ∧ h2.v = nth l 0 ∧ DqI ms2 1 rm tp2 (l.drop 1) ∧ tp2 + q ≤ tp + l.length + 1 ∧ ms2.length = ms.length ∧ (nth ms2 0 = nth ms 0 ∧ nth ms2 (rm + 3) = nth ms (rm + 3)) := by
              obtain ⟨ms2, h2, s1, s2, -, s3, s4, s5, hkp⟩ := solo_steal DQ.out (by omega) ((i : Int) + 100)
              exact ⟨ms2, h2, tp + 1, s1, s2, s3, s4, by omega, s5, ⟨hkp 0 (.inl (by omega)), hkp (rm + 3) (.inr (by omega))⟩⟩
            have hl2 : ms2.length = rm + 4 := hlen.trans HL.out
            have hD := KEY.out 3 (by decide) ms2 h2 hS (by rw [hst]; decide)
            obtain ⟨k1, p1, v1, t1, b1, wn1, s1⟩ := h2
            simp only at hst hvv
            obtain rfl : s1 = 1 := hst
            subst hvv
            have HD := Lib.hid hD
            have HS2 := Lib.hid hdq
            have HLE := Lib.hid hle
            have HL2 := Lib.hid hl2
            have HK0 := Lib.hid (hk0.trans IJ.out.z0)
            have HK1 := Lib.hid (hk1.trans IJ.out.z1)
            clear hS hD hdq hle hlen hk0 hk1 hl2
            clear gf
            go_wp2_with fail
            refine HD.out.mono ?_
            rintro e w2 ⟨A2, c2, rfl, o2, b2⟩
            rw [HL2.out]
            unfold hv
            obtain ⟨g2, rfl, hg2, hg2l, -, -⟩ := o2.form (by rw [HL2.out]; omega)
            have ba := (Below.refl w2.heap.size w2).alloc (Nat.le_refl _) (.cells #[.int .i64 k1, .int .i64 p1, .int .i64 (nth l 0), .int .i64 t1, .int .i64 b1, .bool wn1, .int .i64 1] 27)
            have kn := Bk.new w2 27 #[.int .i64 k1, .int .i64 p1, .int .i64 (nth l 0), .int .i64 t1, .int .i64 b1, .bool wn1, .int .i64 1]
            have hw23 : (w2.alloc (.cells #[.int .i64 k1, .int .i64 p1, .int .i64 (nth l 0), .int .i64 t1, .int .i64 b1, .bool wn1, .int .i64 1] 27)).heap.size = w2.heap.size + 1 := by simp
            have qq := (IJ.out.ql.below b2).below ba
            have kq := (IJ.out.q.below b2 IJ.out.q.lt).below ba (by have := b2.size; have := IJ.out.q.lt; omega)
            have oo2 := o2.below ba
            have bl3 := below3 (below3 IJ.out.bl b2) ba
            have hz2 : wr.heap.size ≤ w2.heap.size := b2.size
            clear ba o2 b2 q0 q1 lq1 co
            obtain ⟨b9, o9, e9, -, hc9⟩ := qq.ints.2.2.2 (by omega)
            injection e9 with e9
            injection e9 with e91 e92
            subst e91 e92
            have cl1 := hc9 0 (by omega)
            rw [Nat.add_zero] at cl1
            have y2 : _ = some (Value.int .i64 (nth l 0)) := kn.cell 2
            have ly := kn.lt
            have lgl : gl < (w2.alloc (.cells #[.int .i64 k1, .int .i64 p1, .int .i64 (nth l 0), .int .i64 t1, .int .i64 b1, .bool wn1, .int .i64 1] 27)).heap.size := (qq.block (n := 0) (d := 0) gl rfl).2
            clear hc9
            go_wp2
            go_quiet (fail)
            clear cl1 y2 ly lgl
            have qj := qq.below (below_drewN (Below.refl _ _) nq)
            replace kq := kq.below (below_drewN (Below.refl _ _) nq) kq.lt
            replace oo2 := oo2.below (below_drewN (Below.refl _ _) nq)
            replace bl3 := below_drewN bl3 nq
            replace kn := kn.below (below_drewN (Below.refl _ _) nq) kn.lt
            obtain ⟨L2, hL2⟩ : ∃ x, l.drop 1 = x := ⟨_, rfl⟩
            have HNL : Hid (L2.length = q) := Lib.hid (by rw [← hL2, List.length_drop]; omega)
            rw [hL2] at HS2
            clear qq
            by_cases hc1 : cl = 1
            · have hcz : cl - 1 = 0 := by omega
              have qq := qj.tail (by omega) (o' := ol) (.inr ⟨hc1, rfl⟩)
              rw [hcz, hL2] at qq
              clear hL2 qj
              have hlf : listF ms2 1 rm = (0, L2) := dq_list HS2.out (by rw [HL2.out]; exact hq1)
              have HLF := Lib.hid hlf
              clear hlf
              have q0 : _ = some (Value.int .i64 1) := kq.cell 0
              have q1 : _ = some (Value.int .i64 rm) := kq.cell 1
              have lq1 := kq.lt
              have QQ := Lib.hid qq
              have KQ := Lib.hid kq
              have O2 := Lib.hid oo2
              have BL := Lib.hid bl3
              have KN := Lib.hid kn
              clear qq kq oo2 bl3 kn
              go_wp2_with fail
              refine (list_any _ (rm + 4) c2 1 rm ms2 _ (HL2.out ▸ O2.out.ints) (by unfold Fit; omega) ⟨by omega, by omega⟩).mono ?_
              rw [HLF.out]
              rintro e w6 ⟨A6, c6, rfl, o6, b6⟩
              simp only []
              have kn := KN.out.below b6 KN.out.lt
              have s6 : _ = some (Value.int .i64 1) := kn.cell 6
              have lkn := kn.lt
              have Q6 := QQ.out.below b6
              have O6 := O2.out.below b6
              have K6 := KQ.out.below b6 KQ.out.lt
              have B6 := below3 BL.out b6
              have i6 := o6.ints
              have iq6 : Ints w6 (some ⟨gl, ol, none⟩) q L2 := by have h := Q6.ints; rwa [HNL.out] at h
              have HS := Lib.hid (rsame_any A6 (some ⟨gl, ol, none⟩) _ c6 _ 0 L2 L2 w6 i6 iq6)
              have QX := Lib.hid Q6
              have OX := Lib.hid O6
              have KX := Lib.hid K6
              have BX := Lib.hid B6
              clear Q6 O6 K6 B6 i6 iq6 kn b6 o6 q0 q1 lq1
              go_wp2_with fail
              refine HS.out.mono ?_
              rintro e w7 ⟨rfl, kk, rfl⟩
              rw [show sameB L2 L2 = true from sameB_all rfl rfl (fun _ _ => rfl)]
              have OY := OX.out.below (below_drewN (Below.refl w6.heap.size w6) kk)
              have cA := (OY.at_ (j := 0) (by rw [HL2.out]; omega)).1
              have cB := (OY.at_ (j := rm + 3) (by rw [HL2.out]; omega)).1
              rw [HK0.out] at cA
              rw [HK1.out] at cB
              have IM := Lib.hid (HL2.out ▸ OY.ints : Ints (w6.drewN kk) (some ⟨g2, 0, none⟩) ms2.length ms2)
              have QZ := Lib.hid (QX.out.below (below_drewN (Below.refl w6.heap.size w6) kk))
              have KZ := Lib.hid (KX.out.below (below_drewN (Below.refl w6.heap.size w6) kk) KX.out.lt)
              have BZ := Lib.hid (below_drewN BX.out kk)
              clear OY s6 lkn
              go_wp2
              go_roundw
              case rel => exact ⟨i + 1, some ⟨g2, 0, none⟩, c2, ms2, (some ⟨gl, ol, none⟩), 0, L2, tp2, hin1, by go_num, rfl, by rw [HNL.out], Lib.hid ⟨IM.out, HL2.out, QZ.out, KZ.out, BZ.out, HS2.out, by have h1 := HLE.out; have h2 := HFW.out; have h3 := HNL.out; omega, HK0.out, HK1.out⟩⟩
              case measure => simp [intOf]; omega
            · have hcz : ¬ cl - 1 = 0 := by omega
              have qq := qj.tail (by omega) (o' := ol + 1) (.inl rfl)
              rw [hL2] at qq
              clear hL2 qj
              have hlf : listF ms2 1 rm = (0, L2) := dq_list HS2.out (by rw [HL2.out]; exact hq1)
              have HLF := Lib.hid hlf
              clear hlf
              have q0 : _ = some (Value.int .i64 1) := kq.cell 0
              have q1 : _ = some (Value.int .i64 rm) := kq.cell 1
              have lq1 := kq.lt
              have QQ := Lib.hid qq
              have KQ := Lib.hid kq
              have O2 := Lib.hid oo2
              have BL := Lib.hid bl3
              have KN := Lib.hid kn
              clear qq kq oo2 bl3 kn
              go_wp2_with fail
              refine (list_any _ (rm + 4) c2 1 rm ms2 _ (HL2.out ▸ O2.out.ints) (by unfold Fit; omega) ⟨by omega, by omega⟩).mono ?_
              rw [HLF.out]
              rintro e w6 ⟨A6, c6, rfl, o6, b6⟩
              simp only []
              have kn := KN.out.below b6 KN.out.lt
              have s6 : _ = some (Value.int .i64 1) := kn.cell 6
              have lkn := kn.lt
              have Q6 := QQ.out.below b6
              have O6 := O2.out.below b6
              have K6 := KQ.out.below b6 KQ.out.lt
              have B6 := below3 BL.out b6
              have i6 := o6.ints
              have iq6 : Ints w6 (some ⟨gl, ol + 1, none⟩) q L2 := by have h := Q6.ints; rwa [HNL.out] at h
              have HS := Lib.hid (rsame_any A6 (some ⟨gl, ol + 1, none⟩) _ c6 _ (cl - 1) L2 L2 w6 i6 iq6)
              have QX := Lib.hid Q6
              have OX := Lib.hid O6
              have KX := Lib.hid K6
              have BX := Lib.hid B6
              clear Q6 O6 K6 B6 i6 iq6 kn b6 o6 q0 q1 lq1
              go_wp2_with fail
              refine HS.out.mono ?_
              rintro e w7 ⟨rfl, kk, rfl⟩
              rw [show sameB L2 L2 = true from sameB_all rfl rfl (fun _ _ => rfl)]
              have OY := OX.out.below (below_drewN (Below.refl w6.heap.size w6) kk)
              have cA := (OY.at_ (j := 0) (by rw [HL2.out]; omega)).1
              have cB := (OY.at_ (j := rm + 3) (by rw [HL2.out]; omega)).1
              rw [HK0.out] at cA
              rw [HK1.out] at cB
              have IM := Lib.hid (HL2.out ▸ OY.ints : Ints (w6.drewN kk) (some ⟨g2, 0, none⟩) ms2.length ms2)
              have QZ := Lib.hid (QX.out.below (below_drewN (Below.refl w6.heap.size w6) kk))
              have KZ := Lib.hid (KX.out.below (below_drewN (Below.refl w6.heap.size w6) kk) KX.out.lt)
              have BZ := Lib.hid (below_drewN BX.out kk)
              clear OY s6 lkn
              go_wp2
              go_roundw
              case rel => exact ⟨i + 1, some ⟨g2, 0, none⟩, c2, ms2, (some ⟨gl, ol + 1, none⟩), (cl - 1), L2, tp2, hin1, by go_num, rfl, by rw [HNL.out], Lib.hid ⟨IM.out, HL2.out, QZ.out, KZ.out, BZ.out, HS2.out, by have h1 := HLE.out; have h2 := HFW.out; have h3 := HNL.out; omega, HK0.out, HK1.out⟩⟩
              case measure => simp [intOf]; omega
        · by_cases gf : l.length = 0
          · have hl0 : l.length = 0 := by omega
            obtain ⟨ms2, h2, tp2, hS, hst, hvv, hdq, hle, hlen, hk0, hk1⟩ : ∃ (ms2 : List Int) (h2 : Hd) (tp2 : Nat), soloF 1 rm 8 ms (newH 2 ((i : Int) + 100)) = some (ms2, h2) ∧ h2.state = 2 ∧ True ∧ DqI ms2 1 rm tp2 l ∧ tp2 + l.length ≤ tp + l.length + 1 ∧ ms2.length = ms.length ∧ (nth ms2 0 = nth ms 0 ∧ nth ms2 (rm + 3) = nth ms (rm + 3)) := by
              have hnil : l = [] := List.eq_nil_of_length_eq_zero (by omega)
              have dq := DQ.out
              rw [hnil] at dq
              obtain ⟨h2, s1, s2, -⟩ := solo_pop_none dq ((i : Int) + 100)
              exact ⟨ms, h2, tp, s1, s2, trivial, DQ.out, by omega, rfl, rfl, rfl⟩
            have hl2 : ms2.length = rm + 4 := hlen.trans HL.out
            have hD := KEY.out 2 (by decide) ms2 h2 hS (by rw [hst]; decide)
            obtain ⟨k1, p1, v1, t1, b1, wn1, s1⟩ := h2
            simp only at hst hvv
            obtain rfl : s1 = 2 := hst
            have HD := Lib.hid hD
            have HS2 := Lib.hid hdq
            have HLE := Lib.hid hle
            have HL2 := Lib.hid hl2
            have HK0 := Lib.hid (hk0.trans IJ.out.z0)
            have HK1 := Lib.hid (hk1.trans IJ.out.z1)
            clear hS hD hdq hle hlen hk0 hk1 hl2 hvv
            have e0 : ((l.length : Int) == 0) = true := by rw [hl0]; rfl
            clear hl0 gf
            go_wp2_with fail
            refine HD.out.mono ?_
            rintro e w2 ⟨A2, c2, rfl, o2, b2⟩
            rw [HL2.out]
            unfold hv
            obtain ⟨g2, rfl, hg2, hg2l, -, -⟩ := o2.form (by rw [HL2.out]; omega)
            have ba := (Below.refl w2.heap.size w2).alloc (Nat.le_refl _) (.cells #[.int .i64 k1, .int .i64 p1, .int .i64 v1, .int .i64 t1, .int .i64 b1, .bool wn1, .int .i64 2] 27)
            have kn := Bk.new w2 27 #[.int .i64 k1, .int .i64 p1, .int .i64 v1, .int .i64 t1, .int .i64 b1, .bool wn1, .int .i64 2]
            have hw23 : (w2.alloc (.cells #[.int .i64 k1, .int .i64 p1, .int .i64 v1, .int .i64 t1, .int .i64 b1, .bool wn1, .int .i64 2] 27)).heap.size = w2.heap.size + 1 := by simp
            have qq := (IJ.out.ql.below b2).below ba
            have kq := (IJ.out.q.below b2 IJ.out.q.lt).below ba (by have := b2.size; have := IJ.out.q.lt; omega)
            have oo2 := o2.below ba
            have bl3 := below3 (below3 IJ.out.bl b2) ba
            have hz2 : wr.heap.size ≤ w2.heap.size := b2.size
            clear ba o2 b2 q0 q1 lq1 co
            have hlf : listF ms2 1 rm = (0, l) := dq_list HS2.out (by rw [HL2.out]; exact hq1)
            have HLF := Lib.hid hlf
            clear hlf
            have q0 : _ = some (Value.int .i64 1) := kq.cell 0
            have q1 : _ = some (Value.int .i64 rm) := kq.cell 1
            have lq1 := kq.lt
            have QQ := Lib.hid qq
            have KQ := Lib.hid kq
            have O2 := Lib.hid oo2
            have BL := Lib.hid bl3
            have KN := Lib.hid kn
            clear qq kq oo2 bl3 kn
            go_wp2_with fail
            refine (list_any _ (rm + 4) c2 1 rm ms2 _ (HL2.out ▸ O2.out.ints) (by unfold Fit; omega) ⟨by omega, by omega⟩).mono ?_
            rw [HLF.out]
            rintro e w6 ⟨A6, c6, rfl, o6, b6⟩
            simp only []
            have kn := KN.out.below b6 KN.out.lt
            have s6 : _ = some (Value.int .i64 2) := kn.cell 6
            have lkn := kn.lt
            have Q6 := QQ.out.below b6
            have O6 := O2.out.below b6
            have K6 := KQ.out.below b6 KQ.out.lt
            have B6 := below3 BL.out b6
            have i6 := o6.ints
            have iq6 : Ints w6 Al l.length l := Q6.ints
            have HS := Lib.hid (rsame_any A6 Al _ c6 _ cl l l w6 i6 iq6)
            have QX := Lib.hid Q6
            have OX := Lib.hid O6
            have KX := Lib.hid K6
            have BX := Lib.hid B6
            clear Q6 O6 K6 B6 i6 iq6 kn b6 o6 q0 q1 lq1
            go_wp2_with fail
            refine HS.out.mono ?_
            rintro e w7 ⟨rfl, kk, rfl⟩
            rw [show sameB l l = true from sameB_all rfl rfl (fun _ _ => rfl)]
            have OY := OX.out.below (below_drewN (Below.refl w6.heap.size w6) kk)
            have cA := (OY.at_ (j := 0) (by rw [HL2.out]; omega)).1
            have cB := (OY.at_ (j := rm + 3) (by rw [HL2.out]; omega)).1
            rw [HK0.out] at cA
            rw [HK1.out] at cB
            have IM := Lib.hid (HL2.out ▸ OY.ints : Ints (w6.drewN kk) (some ⟨g2, 0, none⟩) ms2.length ms2)
            have QZ := Lib.hid (QX.out.below (below_drewN (Below.refl w6.heap.size w6) kk))
            have KZ := Lib.hid (KX.out.below (below_drewN (Below.refl w6.heap.size w6) kk) KX.out.lt)
            have BZ := Lib.hid (below_drewN BX.out kk)
            clear OY s6 lkn
            go_wp2
            go_roundw
            case rel => exact ⟨i + 1, some ⟨g2, 0, none⟩, c2, ms2, Al, cl, l, tp2, hin1, by go_num, rfl, rfl, Lib.hid ⟨IM.out, HL2.out, QZ.out, KZ.out, BZ.out, HS2.out, by have h1 := HLE.out; have h2 := HFW.out; omega, HK0.out, HK1.out⟩⟩
            case measure => simp [intOf]; omega
          · obtain ⟨q, hq⟩ : ∃ q, l.length = q + 1 := ⟨l.length - 1, by omega⟩
            obtain ⟨gl, ol, rfl, hgb, hgl, hlc, hcm⟩ := IJ.out.ql.form (by omega)
            obtain ⟨ms2, h2, tp2, hS, hst, hvv, hdq, hle, hlen, hk0, hk1⟩ : ∃ (ms2 : List Int) (h2 : Hd) (tp2 : Nat), soloF 1 rm 8 ms (newH 2 ((i : Int) + 100)) = some (ms2, h2) ∧ h2.state = 1 ∧ h2.v = nth l q ∧ DqI ms2 1 rm tp2 (l.take q) ∧ tp2 + q ≤ tp + l.length + 1 ∧ ms2.length = ms.length ∧ (nth ms2 0 = nth ms 0 ∧ nth ms2 (rm + 3) = nth ms (rm + 3)) := by
              obtain ⟨ms2, h2, tp2, s1, s2, -, s3, s4, s6, s5, hkp⟩ := solo_pop DQ.out (by omega) ((i : Int) + 100)
              have e : l.length - 1 = q := by omega
              rw [e] at s3 s4
              exact ⟨ms2, h2, tp2, s1, s2, s3, s4, by omega, s5, ⟨hkp 0 (.inl (by omega)), hkp (rm + 3) (.inr (by omega))⟩⟩
            have hl2 : ms2.length = rm + 4 := hlen.trans HL.out
            have hD := KEY.out 2 (by decide) ms2 h2 hS (by rw [hst]; decide)
            obtain ⟨k1, p1, v1, t1, b1, wn1, s1⟩ := h2
            simp only at hst hvv
            obtain rfl : s1 = 1 := hst
            subst hvv
            have HD := Lib.hid hD
            have HS2 := Lib.hid hdq
            have HLE := Lib.hid hle
            have HL2 := Lib.hid hl2
            have HK0 := Lib.hid (hk0.trans IJ.out.z0)
            have HK1 := Lib.hid (hk1.trans IJ.out.z1)
            clear hS hD hdq hle hlen hk0 hk1 hl2
            clear gf
            go_wp2_with fail
            refine HD.out.mono ?_
            rintro e w2 ⟨A2, c2, rfl, o2, b2⟩
            rw [HL2.out]
            unfold hv
            obtain ⟨g2, rfl, hg2, hg2l, -, -⟩ := o2.form (by rw [HL2.out]; omega)
            have ba := (Below.refl w2.heap.size w2).alloc (Nat.le_refl _) (.cells #[.int .i64 k1, .int .i64 p1, .int .i64 (nth l q), .int .i64 t1, .int .i64 b1, .bool wn1, .int .i64 1] 27)
            have kn := Bk.new w2 27 #[.int .i64 k1, .int .i64 p1, .int .i64 (nth l q), .int .i64 t1, .int .i64 b1, .bool wn1, .int .i64 1]
            have hw23 : (w2.alloc (.cells #[.int .i64 k1, .int .i64 p1, .int .i64 (nth l q), .int .i64 t1, .int .i64 b1, .bool wn1, .int .i64 1] 27)).heap.size = w2.heap.size + 1 := by simp
            have qq := (IJ.out.ql.below b2).below ba
            have kq := (IJ.out.q.below b2 IJ.out.q.lt).below ba (by have := b2.size; have := IJ.out.q.lt; omega)
            have oo2 := o2.below ba
            have bl3 := below3 (below3 IJ.out.bl b2) ba
            have hz2 : wr.heap.size ≤ w2.heap.size := b2.size
            clear ba o2 b2 q0 q1 lq1 co
            obtain ⟨b9, o9, e9, -, hc9⟩ := qq.ints.2.2.2 (by omega)
            injection e9 with e9
            injection e9 with e91 e92
            subst e91 e92
            have cl1 := hc9 q (by omega)
            have y2 : _ = some (Value.int .i64 (nth l q)) := kn.cell 2
            have ly := kn.lt
            have lgl : gl < (w2.alloc (.cells #[.int .i64 k1, .int .i64 p1, .int .i64 (nth l q), .int .i64 t1, .int .i64 b1, .bool wn1, .int .i64 1] 27)).heap.size := (qq.block (n := 0) (d := 0) gl rfl).2
            clear hc9
            have hwq : IntKind.i64.wrap (q : Int) = (q : Int) := by have := ROOM.out; rw [IntKind.wrap_i64]; omega
            have hwq1 : IntKind.i64.wrap ((q : Int) + 1 - 1) = (q : Int) := by have := ROOM.out; rw [IntKind.wrap_i64]; omega
            go_wp2
            go_quiet (fail)
            clear cl1 y2 ly lgl
            have qi := (qq.below (below_drewN (Below.refl _ _) nq)).init q (by omega)
            replace kq := kq.below (below_drewN (Below.refl _ _) nq) kq.lt
            replace oo2 := oo2.below (below_drewN (Below.refl _ _) nq)
            replace bl3 := below_drewN bl3 nq
            replace kn := kn.below (below_drewN (Below.refl _ _) nq) kn.lt
            obtain ⟨L2, hL2⟩ : ∃ x, l.take q = x := ⟨_, rfl⟩
            have HNL : Hid (L2.length = q) := Lib.hid (by rw [← hL2, List.length_take]; omega)
            rw [hL2] at qi HS2
            clear qq hL2
            have qq := qi
            clear qi
            have hlf : listF ms2 1 rm = (0, L2) := dq_list HS2.out (by rw [HL2.out]; exact hq1)
            have HLF := Lib.hid hlf
            clear hlf
            have q0 : _ = some (Value.int .i64 1) := kq.cell 0
            have q1 : _ = some (Value.int .i64 rm) := kq.cell 1
            have lq1 := kq.lt
            have QQ := Lib.hid qq
            have KQ := Lib.hid kq
            have O2 := Lib.hid oo2
            have BL := Lib.hid bl3
            have KN := Lib.hid kn
            clear qq kq oo2 bl3 kn
            go_wp2_with fail
            refine (list_any _ (rm + 4) c2 1 rm ms2 _ (HL2.out ▸ O2.out.ints) (by unfold Fit; omega) ⟨by omega, by omega⟩).mono ?_
            rw [HLF.out]
            rintro e w6 ⟨A6, c6, rfl, o6, b6⟩
            simp only []
            have kn := KN.out.below b6 KN.out.lt
            have s6 : _ = some (Value.int .i64 1) := kn.cell 6
            have lkn := kn.lt
            have Q6 := QQ.out.below b6
            have O6 := O2.out.below b6
            have K6 := KQ.out.below b6 KQ.out.lt
            have B6 := below3 BL.out b6
            have i6 := o6.ints
            have iq6 : Ints w6 (some ⟨gl, ol, none⟩) q L2 := by have h := Q6.ints; rwa [HNL.out] at h
            have HS := Lib.hid (rsame_any A6 (some ⟨gl, ol, none⟩) _ c6 _ cl L2 L2 w6 i6 iq6)
            have QX := Lib.hid Q6
            have OX := Lib.hid O6
            have KX := Lib.hid K6
            have BX := Lib.hid B6
            clear Q6 O6 K6 B6 i6 iq6 kn b6 o6 q0 q1 lq1
            go_wp2_with fail
            refine HS.out.mono ?_
            rintro e w7 ⟨rfl, kk, rfl⟩
            rw [show sameB L2 L2 = true from sameB_all rfl rfl (fun _ _ => rfl)]
            have OY := OX.out.below (below_drewN (Below.refl w6.heap.size w6) kk)
            have cA := (OY.at_ (j := 0) (by rw [HL2.out]; omega)).1
            have cB := (OY.at_ (j := rm + 3) (by rw [HL2.out]; omega)).1
            rw [HK0.out] at cA
            rw [HK1.out] at cB
            have IM := Lib.hid (HL2.out ▸ OY.ints : Ints (w6.drewN kk) (some ⟨g2, 0, none⟩) ms2.length ms2)
            have QZ := Lib.hid (QX.out.below (below_drewN (Below.refl w6.heap.size w6) kk))
            have KZ := Lib.hid (KX.out.below (below_drewN (Below.refl w6.heap.size w6) kk) KX.out.lt)
            have BZ := Lib.hid (below_drewN BX.out kk)
            clear OY s6 lkn
            go_wp2
            go_roundw
            case rel => exact ⟨i + 1, some ⟨g2, 0, none⟩, c2, ms2, (some ⟨gl, ol, none⟩), cl, L2, tp2, hin1, by go_num, rfl, by rw [HNL.out], Lib.hid ⟨IM.out, HL2.out, QZ.out, KZ.out, BZ.out, HS2.out, by have h1 := HLE.out; have h2 := HFW.out; have h3 := HNL.out; omega, HK0.out, HK1.out⟩⟩
            case measure => simp [intOf]; omega
      · have g1 : ¬ o < -64 := by omega
        by_cases gf : (rm : Int) ≤ (l.length : Int)
        · have ef : ((l.length : Int) == (rm : Int)) = true := by have := ROOM.out; simp; omega
          obtain ⟨ms2, h2, tp2, hS, hst, hvv, hdq, hle, hlen, hk0, hk1⟩ : ∃ (ms2 : List Int) (h2 : Hd) (tp2 : Nat), soloF 1 rm 8 ms (newH 1 ((i : Int) + 100)) = some (ms2, h2) ∧ h2.state = 3 ∧ True ∧ DqI ms2 1 rm tp2 l ∧ tp2 + l.length ≤ tp + l.length + 1 ∧ ms2.length = ms.length ∧ (nth ms2 0 = nth ms 0 ∧ nth ms2 (rm + 3) = nth ms (rm + 3)) := by
            refine ⟨ms, _, tp, solo_push_full DQ.out (by omega) _, rfl, trivial, DQ.out, by omega, rfl, rfl, rfl⟩
          have hl2 : ms2.length = rm + 4 := hlen.trans HL.out
          have hD := KEY.out 1 (by decide) ms2 h2 hS (by rw [hst]; decide)
          obtain ⟨k1, p1, v1, t1, b1, wn1, s1⟩ := h2
          simp only at hst hvv
          obtain rfl : s1 = 3 := hst
          have HD := Lib.hid hD
          have HS2 := Lib.hid hdq
          have HLE := Lib.hid hle
          have HL2 := Lib.hid hl2
          have HK0 := Lib.hid (hk0.trans IJ.out.z0)
          have HK1 := Lib.hid (hk1.trans IJ.out.z1)
          clear hS hD hdq hle hlen hk0 hk1 hl2 hvv
          clear gf
          go_wp2_with fail
          refine HD.out.mono ?_
          rintro e w2 ⟨A2, c2, rfl, o2, b2⟩
          rw [HL2.out]
          unfold hv
          obtain ⟨g2, rfl, hg2, hg2l, -, -⟩ := o2.form (by rw [HL2.out]; omega)
          have ba := (Below.refl w2.heap.size w2).alloc (Nat.le_refl _) (.cells #[.int .i64 k1, .int .i64 p1, .int .i64 v1, .int .i64 t1, .int .i64 b1, .bool wn1, .int .i64 3] 27)
          have kn := Bk.new w2 27 #[.int .i64 k1, .int .i64 p1, .int .i64 v1, .int .i64 t1, .int .i64 b1, .bool wn1, .int .i64 3]
          have hw23 : (w2.alloc (.cells #[.int .i64 k1, .int .i64 p1, .int .i64 v1, .int .i64 t1, .int .i64 b1, .bool wn1, .int .i64 3] 27)).heap.size = w2.heap.size + 1 := by simp
          have qq := (IJ.out.ql.below b2).below ba
          have kq := (IJ.out.q.below b2 IJ.out.q.lt).below ba (by have := b2.size; have := IJ.out.q.lt; omega)
          have oo2 := o2.below ba
          have bl3 := below3 (below3 IJ.out.bl b2) ba
          have hz2 : wr.heap.size ≤ w2.heap.size := b2.size
          clear ba o2 b2 q0 q1 lq1 co
          have hlf : listF ms2 1 rm = (0, l) := dq_list HS2.out (by rw [HL2.out]; exact hq1)
          have HLF := Lib.hid hlf
          clear hlf
          have q0 : _ = some (Value.int .i64 1) := kq.cell 0
          have q1 : _ = some (Value.int .i64 rm) := kq.cell 1
          have lq1 := kq.lt
          have QQ := Lib.hid qq
          have KQ := Lib.hid kq
          have O2 := Lib.hid oo2
          have BL := Lib.hid bl3
          have KN := Lib.hid kn
          clear qq kq oo2 bl3 kn
          go_wp2_with fail
          refine (list_any _ (rm + 4) c2 1 rm ms2 _ (HL2.out ▸ O2.out.ints) (by unfold Fit; omega) ⟨by omega, by omega⟩).mono ?_
          rw [HLF.out]
          rintro e w6 ⟨A6, c6, rfl, o6, b6⟩
          simp only []
          have kn := KN.out.below b6 KN.out.lt
          have s6 : _ = some (Value.int .i64 3) := kn.cell 6
          have lkn := kn.lt
          have Q6 := QQ.out.below b6
          have O6 := O2.out.below b6
          have K6 := KQ.out.below b6 KQ.out.lt
          have B6 := below3 BL.out b6
          have i6 := o6.ints
          have iq6 : Ints w6 Al l.length l := Q6.ints
          have HS := Lib.hid (rsame_any A6 Al _ c6 _ cl l l w6 i6 iq6)
          have QX := Lib.hid Q6
          have OX := Lib.hid O6
          have KX := Lib.hid K6
          have BX := Lib.hid B6
          clear Q6 O6 K6 B6 i6 iq6 kn b6 o6 q0 q1 lq1
          go_wp2_with fail
          refine HS.out.mono ?_
          rintro e w7 ⟨rfl, kk, rfl⟩
          rw [show sameB l l = true from sameB_all rfl rfl (fun _ _ => rfl)]
          have OY := OX.out.below (below_drewN (Below.refl w6.heap.size w6) kk)
          have cA := (OY.at_ (j := 0) (by rw [HL2.out]; omega)).1
          have cB := (OY.at_ (j := rm + 3) (by rw [HL2.out]; omega)).1
          rw [HK0.out] at cA
          rw [HK1.out] at cB
          have IM := Lib.hid (HL2.out ▸ OY.ints : Ints (w6.drewN kk) (some ⟨g2, 0, none⟩) ms2.length ms2)
          have QZ := Lib.hid (QX.out.below (below_drewN (Below.refl w6.heap.size w6) kk))
          have KZ := Lib.hid (KX.out.below (below_drewN (Below.refl w6.heap.size w6) kk) KX.out.lt)
          have BZ := Lib.hid (below_drewN BX.out kk)
          clear OY s6 lkn
          go_wp2
          go_roundw
          case rel => exact ⟨i + 1, some ⟨g2, 0, none⟩, c2, ms2, Al, cl, l, tp2, hin1, by go_num, rfl, rfl, Lib.hid ⟨IM.out, HL2.out, QZ.out, KZ.out, BZ.out, HS2.out, by have h1 := HLE.out; have h2 := HFW.out; omega, HK0.out, HK1.out⟩⟩
          case measure => simp [intOf]; omega
        · have ef : ((l.length : Int) == (rm : Int)) = false := by simp; omega
          obtain ⟨ms2, h2, tp2, hS, hst, hvv, hdq, hle, hlen, hk0, hk1⟩ : ∃ (ms2 : List Int) (h2 : Hd) (tp2 : Nat), soloF 1 rm 8 ms (newH 1 ((i : Int) + 100)) = some (ms2, h2) ∧ h2.state = 1 ∧ True ∧ DqI ms2 1 rm tp2 (l ++ [(i : Int) + 100]) ∧ tp2 + (l.length + 1) ≤ tp + l.length + 1 ∧ ms2.length = ms.length ∧ (nth ms2 0 = nth ms 0 ∧ nth ms2 (rm + 3) = nth ms (rm + 3)) := by
            obtain ⟨ms2, h2, s1, s2, -, -, s4, s5, hkp⟩ := solo_push DQ.out (by omega) ((i : Int) + 100) HT.out
            exact ⟨ms2, h2, tp, s1, s2, trivial, s4, by omega, s5, ⟨hkp 0 (.inl (by omega)), hkp (rm + 3) (.inr (by omega))⟩⟩
          have hl2 : ms2.length = rm + 4 := hlen.trans HL.out
          have hD := KEY.out 1 (by decide) ms2 h2 hS (by rw [hst]; decide)
          obtain ⟨k1, p1, v1, t1, b1, wn1, s1⟩ := h2
          simp only at hst hvv
          obtain rfl : s1 = 1 := hst
          have HD := Lib.hid hD
          have HS2 := Lib.hid hdq
          have HLE := Lib.hid hle
          have HL2 := Lib.hid hl2
          have HK0 := Lib.hid (hk0.trans IJ.out.z0)
          have HK1 := Lib.hid (hk1.trans IJ.out.z1)
          clear hS hD hdq hle hlen hk0 hk1 hl2 hvv
          clear gf
          go_wp2_with fail
          refine HD.out.mono ?_
          rintro e w2 ⟨A2, c2, rfl, o2, b2⟩
          rw [HL2.out]
          unfold hv
          obtain ⟨g2, rfl, hg2, hg2l, -, -⟩ := o2.form (by rw [HL2.out]; omega)
          have ba := (Below.refl w2.heap.size w2).alloc (Nat.le_refl _) (.cells #[.int .i64 k1, .int .i64 p1, .int .i64 v1, .int .i64 t1, .int .i64 b1, .bool wn1, .int .i64 1] 27)
          have kn := Bk.new w2 27 #[.int .i64 k1, .int .i64 p1, .int .i64 v1, .int .i64 t1, .int .i64 b1, .bool wn1, .int .i64 1]
          have hw23 : (w2.alloc (.cells #[.int .i64 k1, .int .i64 p1, .int .i64 v1, .int .i64 t1, .int .i64 b1, .bool wn1, .int .i64 1] 27)).heap.size = w2.heap.size + 1 := by simp
          have qq := (IJ.out.ql.below b2).below ba
          have kq := (IJ.out.q.below b2 IJ.out.q.lt).below ba (by have := b2.size; have := IJ.out.q.lt; omega)
          have oo2 := o2.below ba
          have bl3 := below3 (below3 IJ.out.bl b2) ba
          have hz2 : wr.heap.size ≤ w2.heap.size := b2.size
          clear ba o2 b2 q0 q1 lq1 co
          have FV : Hid (Fit ((i : Int) + 100)) := Lib.hid ⟨by omega, by omega⟩
          have hrow : ∀ k, (Value.slice Al l.length cl).ownBlock = some k → V.heap.size ≤ k ∧ k < wr.heap.size := fun k hk => IJ.out.ql.block k hk
          have HROW := Lib.hid hrow
          have hsw := IJ.out.q.lt
          have hwv := HVW.out
          have HLN : Hid ((l ++ [(i : Int) + 100]).length = l.length + 1) := Lib.hid (by simp)
          have QQ0 := Lib.hid (qq.below ((Below.refl _ _).alloc (Nat.le_refl _) (.cells #[.int .i64 ((i : Int) + 100)] 2)))
          have KQ0 := Lib.hid (kq.alloc (.cells #[.int .i64 ((i : Int) + 100)] 2))
          have O20 := Lib.hid (oo2.below ((Below.refl _ _).alloc (Nat.le_refl _) (.cells #[.int .i64 ((i : Int) + 100)] 2)))
          have BL0 := Lib.hid (bl3.alloc (Nat.le_trans hwv (Nat.le_trans hz2 (by simp))) (.cells #[.int .i64 ((i : Int) + 100)] 2))
          have KN0 := Lib.hid (kn.alloc (.cells #[.int .i64 ((i : Int) + 100)] 2))
          have IN1 := Lib.hid (ints1 (w2.alloc (.cells #[.int .i64 k1, .int .i64 p1, .int .i64 v1, .int .i64 t1, .int .i64 b1, .bool wn1, .int .i64 1] 27)) 2 FV.out)
          rw [hw23] at IN1
          have HSZ : Hid (V.heap.size ≤ ((w2.alloc (.cells #[.int .i64 k1, .int .i64 p1, .int .i64 v1, .int .i64 t1, .int .i64 b1, .bool wn1, .int .i64 1] 27)).alloc (.cells #[.int .i64 ((i : Int) + 100)] 2)).heap.size) := Lib.hid (by have := BL0.out.size; exact this)
          have LSV : Hid (wa.heap.size < V.heap.size) := Lib.hid lq
          clear qq kq oo2 bl3 kn hrow
          go_wp2_with (at_builtin; go_loud (refine wpList_append_que _ rfl _ _ 22 rfl 2 Try.underlying22 infoI V.heap.size Al cl l l.length rfl rfl QQ0.out (some ⟨w2.heap.size + 1, 0, none⟩) 1 1 [(i : Int) + 100] rfl IN1.out (by have := ROOM.out; omega) HSZ.out ?_; intro A4 c4 w4 ho4 hg4 hf4; obtain ⟨L2, hL2⟩ : ∃ x, l ++ [(i : Int) + 100] = x := ⟨_, rfl⟩; rw [hL2] at ho4 HLN HS2 ⊢; have qq := ho4; have kq := KQ0.out.grown hg4 (fun e => by have := HROW.out _ e.symm; have := LSV.out; omega); have kn := KN0.out.grown hg4 (fun e => by have := HROW.out _ e.symm; omega); have bl3 := BL0.out.grown hg4 HSZ.out (fun k hk => (HROW.out k hk).1); have oo2 : OwnI 2 w4 wr.heap.size (some ⟨g2, 0, none⟩) c2 ms2 := ⟨O20.out.1, O20.out.2.1, O20.out.2.2.kept hg4 (.inr (fun e => by have h9 : (Value.slice Al l.length cl).ownBlock = some g2 := e.symm; have := HROW.out _ h9; omega))⟩; clear hg4 hf4 ho4 hL2; have q0 : _ = some (Value.int .i64 1) := kq.cell 0; have q1 : _ = some (Value.int .i64 rm) := kq.cell 1; have lq1 := kq.lt; have hlf : listF ms2 1 rm = (0, L2) := dq_list HS2.out (by rw [HL2.out]; exact hq1); have HLF := Lib.hid hlf; have QQ := Lib.hid qq; have KQ := Lib.hid kq; have O2 := Lib.hid oo2; have BL := Lib.hid bl3; have KN := Lib.hid kn; clear qq kq oo2 bl3 kn hlf))
          refine (list_any _ (rm + 4) c2 1 rm ms2 _ (HL2.out ▸ O2.out.ints) (by unfold Fit; omega) ⟨by omega, by omega⟩).mono ?_
          rw [HLF.out]
          rintro e w6 ⟨A6, c6, rfl, o6, b6⟩
          simp only []
          have kn := KN.out.below b6 KN.out.lt
          have s6 : _ = some (Value.int .i64 1) := kn.cell 6
          have lkn := kn.lt
          have Q6 := QQ.out.below b6
          have O6 := O2.out.below b6
          have K6 := KQ.out.below b6 KQ.out.lt
          have B6 := below3 BL.out b6
          have i6 := o6.ints
          have iq6 : Ints w6 A4 L2.length L2 := Q6.ints
          have HS := Lib.hid (rsame_any A6 A4 _ c6 _ c4 L2 L2 w6 i6 iq6)
          have QX := Lib.hid Q6
          have OX := Lib.hid O6
          have KX := Lib.hid K6
          have BX := Lib.hid B6
          clear Q6 O6 K6 B6 i6 iq6 kn b6 o6 q0 q1 lq1
          go_wp2_with fail
          refine HS.out.mono ?_
          rintro e w7 ⟨rfl, kk, rfl⟩
          rw [show sameB L2 L2 = true from sameB_all rfl rfl (fun _ _ => rfl)]
          have OY := OX.out.below (below_drewN (Below.refl w6.heap.size w6) kk)
          have cA := (OY.at_ (j := 0) (by rw [HL2.out]; omega)).1
          have cB := (OY.at_ (j := rm + 3) (by rw [HL2.out]; omega)).1
          rw [HK0.out] at cA
          rw [HK1.out] at cB
          have IM := Lib.hid (HL2.out ▸ OY.ints : Ints (w6.drewN kk) (some ⟨g2, 0, none⟩) ms2.length ms2)
          have QZ := Lib.hid (QX.out.below (below_drewN (Below.refl w6.heap.size w6) kk))
          have KZ := Lib.hid (KX.out.below (below_drewN (Below.refl w6.heap.size w6) kk) KX.out.lt)
          have BZ := Lib.hid (below_drewN BX.out kk)
          clear OY s6 lkn
          go_wp2
          go_roundw
          case rel => exact ⟨i + 1, some ⟨g2, 0, none⟩, c2, ms2, A4, c4, L2, tp2, hin1, by go_num, rfl, rfl, Lib.hid ⟨IM.out, HL2.out, QZ.out, KZ.out, BZ.out, HS2.out, by have h1 := HLE.out; have h2 := HFW.out; have h3 := HLN.out; omega, HK0.out, HK1.out⟩⟩
          case measure => simp [intOf]; omega
    · obtain rfl : i = n := by omega
      have BE := Lib.hid (below3 BW.out IJ.out.bl)
      go_wp2
      go_ret
      exact ⟨rfl, BE.out⟩

theorem lsolo_any (rm at_ : Int) (A : Option Addr) (n c : Nat) (os : List Int) (w : World) (hm : n ≤ 9223372036854775807) (hx : I8s w A n os) :
    Calls Try.prog 5 #[.int .i64 rm, .int .i64 at_, .slice A n c] w (TrueAns w) := by
  by_cases h : rm < 1 ∨ 8 < rm ∨ at_ < 0 ∨ 1073741824 < at_ ∨ 100 < n
  · exact lsolo_out rm at_ A n c w hm h
  · obtain ⟨r, rfl⟩ : ∃ r : Nat, rm = r := ⟨rm.toNat, by omega⟩
    obtain ⟨a, rfl⟩ : ∃ a : Nat, at_ = a := ⟨at_.toNat, by omega⟩
    exact lsolo_go r a A n c os w (by omega) (by omega) (by omega) (by omega) hx

end Go.Proofs.Ytfmiamjbhlglbaa

/-
  The law JoinsFree: the walk.
-/
import Derived.Test.YtkffmohgnbnhkaaJv
import Derived.Test.YtkffmohgnbnhkaaPRowJ
namespace Go.Proofs.Ytkffmohgnbnhkaa
open Go.RowKit

/-- What a call that goes well leaves may be. -/
theorem wait_ok {l : List Tm} {x y e : Int} {m : List Tm} (h : waitR l x y = (e, m)) (e0 : e = 0) : okJ m := by
  unfold waitR at h
  by_cases h1 : okJ l ∧ 0 ≤ x ∧ 0 ≤ y
  · rw [if_pos h1] at h
    by_cases h2 : 0 ≤ onL l y
    · rw [if_pos h2] at h; injection h with h _; omega
    · rw [if_neg h2] at h
      by_cases h3 : x = y ∨ y ∈ wayJ l x
      · rw [if_pos h3] at h; injection h with h _; omega
      · rw [if_neg h3] at h
        by_cases h4 : l.length = 256
        · rw [if_pos h4] at h; injection h with h _; omega
        · rw [if_neg h4] at h
          injection h with _ h
          rw [← h]
          have hl := h1.1.1
          exact (h1.1.wait h1.2.1 h1.2.2 (by omega) (fun q => h3 (.inl q)) (fun q => h3 (.inr q)) (by omega)).1
  · rw [if_neg h1] at h; injection h with h _; omega
theorem drop_ok {l : List Tm} {y e : Int} {m : List Tm} (h : dropR l y = (e, m)) (e0 : e = 0) : okJ m := by
  unfold dropR at h
  by_cases h1 : okJ l
  · rw [if_pos h1] at h
    by_cases h2 : 0 ≤ onL l y
    · rw [if_pos h2] at h
      injection h with _ h
      rw [← h]
      exact h1.less y
    · rw [if_neg h2] at h; injection h with h _; omega
  · rw [if_neg h1] at h; injection h with h _; omega
/-- What is known of one join's way. -/
theorem way_facts {l : List Tm} (h : okJ l) {j : Nat} (hj : j < l.length) {z1 z2 : Int} (e : ith l j = (z1, z2)) {zs : List Int} (hz : wayJ l z2 = zs) :
    0 < zs.length ∧ zs.length ≤ 256 ∧ nth zs 0 = z1 ∧ (∀ i, i < zs.length → nth zs i ≠ z2) ∧ wayJ l (nth zs (zs.length - 1)) = [] ∧ forR l z2 = (0, zs) ∧ forR l (nth zs (zs.length - 1)) = (0, []) := by
  have hm : (z1, z2) ∈ l := by rw [← e]; exact whos_nth hj
  obtain ⟨ys, hy⟩ := wayJ_head h hm
  have hy' : wayJ l z2 = z1 :: ys := hy
  have hp := h.path z2
  have hno := h.2.2.2 _ hm
  have hsh := h.short z2
  rw [hz] at hy' hp hsh
  have hno' : z2 ∉ zs := by rw [← hz]; exact hno
  have hl : 0 < zs.length := by rw [hy']; simp
  have hlast : wayJ l (nth zs (zs.length - 1)) = [] := wayJ_nil.2 (hp.last hl)
  refine ⟨hl, hsh, by rw [hy']; rfl, fun i hi q => hno' ?_, hlast, by unfold forR; rw [if_pos h, hz], by unfold forR; rw [if_pos h, hlast]⟩
  rw [← q, nth_get hi]
  exact List.getElem_mem hi

set_option maxRecDepth 100000 in
set_option maxHeartbeats 16000000 in
theorem lfree_any (A : Option Addr) (n c : Nat) (p : List O3) (w : World) (hx : Ops8 w A n c p) :
    Calls Try.prog 4 #[.slice A n c] w (TrueAns w) := by
  have HX := Lib.hid hx
  have LX := Lib.hid hx.1
  have hnc := hx.2.1
  clear hx
  by_cases hn : 100 < n
  · have t0 : decide ((100 : Int) < (n : Int)) = true := by simp; omega
    go_enter Try.func4, Try.ntmps4
    go_wp2_with fail
    refine (live_any _).mono ?_
    rintro e w1 ⟨rfl, b⟩
    have B1 := Lib.hid b
    clear b
    go_wp2_with fail
    go_ret
    exact ⟨rfl, B1.out⟩
  · have t0 : decide ((100 : Int) < (n : Int)) = false := by simp; omega
    go_enter Try.func4, Try.ntmps4
    go_wp2_with fail
    refine (live_any _).mono ?_
    rintro e w1 ⟨rfl, b⟩
    have B1 := Lib.hid b
    clear b
    go_wp2_with fail
    go_loopw [4, 28] (fun t4 t wr => ∃ (k : Nat) (Al : Option Addr) (cl nl : Nat) (ls : List Tm), k ≤ n ∧ t = .int .i64 k ∧ t4 = .slice Al nl cl ∧ Hid (ls.length = nl) ∧ Hid (okJ ls) ∧ Hid (OwnT 37 wr w.heap.size Al cl ls) ∧ Hid (Below w.heap.size w wr)) (fun _ t _ => n - (intOf t).toNat)
    case atStart => exact ⟨0, none, 0, 0, [], Nat.zero_le _, rfl, rfl, Lib.hid rfl, Lib.hid okJ_nil, Lib.hid (OwnT.nil_ _ _ _), B1⟩
    case round =>
      clear B1
      rename World => wo
      obtain ⟨k, Al, cl, nl, ls, hk, rfl, rfl, HNL, HOL, OL, BW⟩ := hrel
      by_cases hkn : k < n
      · obtain ⟨bO, oO, rfl, hbO, hcell⟩ := (HX.out.below BW.out).2.2.2 (by omega)
        obtain ⟨c0, c1, c2⟩ := hcell k hkn
        obtain ⟨⟨kd, x, y⟩, ho⟩ : ∃ o, oth p k = o := ⟨_, rfl⟩
        have fo : FitO (oth p k) := by rw [oth_get (by rw [LX.out]; exact hkn)]; exact HX.out.2.2.1 _ (List.getElem_mem _)
        rw [ho] at c0 c1 c2 fo
        dsimp only at c0 c1 c2
        have FX : Hid (Fit x) := Lib.hid fo.2.1
        have FY : Hid (Fit y) := Lib.hid fo.2.2
        have k1 := Bk.new wo 41 #[.int .i64 kd, .int .i64 x, .int .i64 y]
        have b1 := (Below.refl wo.heap.size wo).alloc (Nat.le_refl _) (.cells #[.int .i64 kd, .int .i64 x, .int .i64 y] 41)
        have d0 : _ = some (Value.int .i64 kd) := k1.cell 0
        have d1 : _ = some (Value.int .i64 x) := k1.cell 1
        have d2 : _ = some (Value.int .i64 y) := k1.cell 2
        have lk1 := k1.lt
        have BB := Lib.hid (below3 BW.out b1)
        replace OL := Lib.hid (OL.out.below b1)
        have hcl := OL.out.cap
        rw [HNL.out] at hcl
        clear hcell ho fo k1 b1 BW
        by_cases hk0 : kd.tmod 3 = 0
        · have tk0 : (kd.tmod 3 == 0) = true := by simpa using hk0
          clear hk0
          obtain ⟨⟨er, ys⟩, hr⟩ : ∃ r, waitR ls x y = r := ⟨_, rfl⟩
          have HR := Lib.hid hr
          have HYS := Lib.hid (fun h => wait_ok hr h)
          obtain ⟨ny, hny⟩ : ∃ m, ys.length = m := ⟨_, rfl⟩
          have HNY := Lib.hid hny
          clear hr hny
          go_wp2_with fail
          refine (pwait_any Al nl cl ls x y _ (OL.out.tmsN HNL.out) FX.out FY.out).mono ?_
          rw [HR.out]
          rintro e wb ⟨Ay, cy, rfl, oy, b⟩
          dsimp only at oy ⊢
          rw [HNY.out]
          have OY := Lib.hid (oy.base BB.out.size)
          have BX := Lib.hid (below3 BB.out b)
          replace OL := Lib.hid (OL.out.below b)
          clear b oy HR BB d0 d1 d2 lk1 c0 c1 c2 hbO
          by_cases h0 : er = 0
          · have HOX : Hid (okJ ys) := Lib.hid (HYS.out h0)
            have te : (er == 0) = true := by simpa using h0
            clear OL HOL HNL HYS h0 hcl
            have HNX := HNY
            have OX := OY
            clear HNY OY

            have HCX := Lib.hid (checkR_yes HOX.out)
            have hcx := OX.out.cap
            rw [HNX.out] at hcx
            have hnx : ny ≤ 256 := by rw [← HNX.out]; exact HOX.out.1
            go_wp2_with fail
            refine (pcheck_any Ay ny cy ys _ (OX.out.tmsN HNX.out)).mono ?_
            rw [HCX.out]
            rintro e wc ⟨rfl, b⟩
            replace OX := Lib.hid (OX.out.below b)
            replace BX := Lib.hid (below3 BX.out b)
            clear b HCX
            go_wp2_with fail
            go_loopw [71] (fun t wr => ∃ j : Nat, j ≤ ny ∧ t = .int .i64 j ∧ Hid (Below wc.heap.size wc wr)) (fun t _ => ny - (intOf t).toNat)
            case atStart => exact ⟨0, Nat.zero_le _, rfl, Lib.hid (Below.refl _ _)⟩
            case round =>
              rename World => wi
              obtain ⟨j, hj, rfl, BI⟩ := hrel
              by_cases hjn : j < ny
              · obtain ⟨bL, oL, rfl, hbL, c0, c1⟩ := ((OX.out.tmsN HNX.out).below BI.out).at_ hjn
                have hjl : j < ys.length := by rw [HNX.out]; exact hjn
                have fz := (OX.out.tmsN HNX.out).fit hjn
                obtain ⟨z1, hz1⟩ : ∃ z, jO ys j = z := ⟨_, rfl⟩
                obtain ⟨z2, hz2⟩ : ∃ z, jA ys j = z := ⟨_, rfl⟩
                have hit : ith ys j = (z1, z2) := by rw [← hz1, ← hz2]; rfl
                rw [hz1] at c0 fz
                rw [hz2] at c1 fz
                obtain ⟨zs, hzs⟩ : ∃ zs, wayJ ys z2 = zs := ⟨_, rfl⟩
                obtain ⟨f1, f2, f3, f4, f5, f6, f7⟩ := way_facts HOX.out hjl hit hzs
                have HFT := Lib.hid (wayJ_fit (OX.out.tmsN HNX.out).2.2.1 z2)
                rw [hzs] at HFT
                obtain ⟨nz, hnz⟩ : ∃ m, zs.length = m := ⟨_, rfl⟩
                rw [hnz] at f1 f2 f4 f7
                have HNZ := Lib.hid hnz
                obtain ⟨la, hla⟩ : ∃ v, nth zs (nz - 1) = v := ⟨_, rfl⟩
                rw [hla] at f7
                have HLA := Lib.hid hla
                have HF4 := Lib.hid f4
                have HF6 := Lib.hid f6
                have HF7 := Lib.hid f7
                have HF3 := Lib.hid f3
                have FZ := Lib.hid fz
                have FLA : Hid (Fit la) := Lib.hid (by
                  rw [← hla, nth_get (by omega)]
                  exact HFT.out _ (List.getElem_mem _))
                have k1 := Bk.new wi 37 #[.int .i64 z1, .int .i64 z2]
                have b1 := (Below.refl wi.heap.size wi).alloc (Nat.le_refl _) (.cells #[.int .i64 z1, .int .i64 z2] 37)
                have d0 := k1.c0
                have d1 := k1.c1
                have HXL := Lib.hid ((OX.out.tmsN HNX.out).below (below3 BI.out b1))
                have B9 := Lib.hid (below3 BI.out b1)
                have HK := Lib.hid k1
                obtain ⟨gx, hgx⟩ : ∃ g, wi.heap.size = g := ⟨_, rfl⟩
                obtain ⟨V, hV⟩ : ∃ V, wi.alloc (.cells #[.int .i64 z1, .int .i64 z2] 37) = V := ⟨_, rfl⟩
                have HP := Lib.hid (pfor_any (some ⟨bL, oL, none⟩) ny cy ys z2 (wi.alloc (.cells #[.int .i64 z1, .int .i64 z2] 37)) HXL.out FZ.out.2)
                rw [HF6.out] at HP
                clear hz1 hz2 hit hzs hnz hla f3 f4 f5 f6 f7 fz k1 b1 BI HFT hgx hV
                go_wp2_with fail
                refine HP.out.mono ?_
                rintro e wf ⟨Az, cz, rfl, oz, b⟩
                dsimp only at oz ⊢
                rw [HNZ.out]
                have BF := Lib.hid (below3 B9.out b)
                have KF := Lib.hid (HK.out.below b HK.out.lt)
                have OZ := Lib.hid oz
                have e0 := KF.out.c0
                have e1 := KF.out.c1
                have lk := KF.out.lt
                have hcz := oz.cap
                rw [HNZ.out] at hcz
                obtain ⟨bZ, oZ, rfl, hbZ, cZ⟩ := (OZ.out.intsN HNZ.out).at_ f1
                rw [HF3.out, Nat.add_zero] at cZ
                have tn : (z1 != z1) = false := by simp
                have tz : ((nz : Int) == 0) = false := by simp; omega
                clear b oz HP HK B9 d0 d1 c0 c1 HXL HF6
                go_wp2_with fail
                go_quiet (fail)
                go_wp2_with fail
                generalize hwq : World.drewN wf _ = wq
                have bq : Below wf.heap.size wf wq := by rw [← hwq]; exact drew_below _ _
                have KQ := Lib.hid (KF.out.below bq KF.out.lt)
                have BQ := Lib.hid (below3 BF.out bq)
                have OZQ := Lib.hid (OZ.out.below bq)
                have e0 := KQ.out.c0
                have e1 := KQ.out.c1
                have lk := KQ.out.lt
                clear hwq bq KF BF OZ cZ hbZ
                go_loopw [99] (fun t wr => ∃ i : Nat, i ≤ nz ∧ t = .int .i64 i ∧ wr = wq) (fun t _ => nz - (intOf t).toNat)
                case atStart => exact ⟨0, Nat.zero_le _, rfl, rfl⟩
                case round =>
                  rename World => wr
                  obtain ⟨i, hi, rfl, rfl⟩ := hrel
                  by_cases hin : i < nz
                  · obtain ⟨bY, oY, eY, hbY, cY⟩ := (OZQ.out.intsN HNZ.out).at_ hin
                    injection eY with eY
                    injection eY with eY1 eY2 _
                    subst eY1 eY2
                    obtain ⟨v, hv⟩ : ∃ v, nth zs i = v := ⟨_, rfl⟩
                    have tv : (v == z2) = false := by have := HF4.out i hin; rw [hv] at this; simpa using this
                    rw [hv] at cY
                    clear hv
                    go_wp2_with fail
                    go_roundw
                    case rel => exact ⟨i + 1, by omega, by go_num, trivial⟩
                    case measure => simp [intOf]; omega
                  · have hin' : i = nz := by omega
                    obtain ⟨bY, oY, eY, hbY, cY⟩ := (OZQ.out.intsN HNZ.out).at_ (k := nz - 1) (by omega)
                    injection eY with eY
                    injection eY with eY1 eY2 _
                    subst eY1 eY2
                    rw [HLA.out] at cY
                    have HP := Lib.hid (pfor_any (some ⟨bL, oL, none⟩) ny cy ys la wr ((OX.out.tmsN HNX.out).below BQ.out) FLA.out)
                    rw [HF7.out] at HP
                    have hwr : IntKind.i64.wrap ((nz : Int) - 1) = ((nz - 1 : Nat) : Int) := by rw [IntKind.wrap_i64]; omega
                    have hwr2 : IntKind.i64.wrap (-1 + (nz : Int)) = ((nz - 1 : Nat) : Int) := by rw [IntKind.wrap_i64]; omega
                    obtain ⟨nq, hnq⟩ : ∃ q, nz - 1 = q := ⟨_, rfl⟩
                    rw [hnq] at cY hwr hwr2
                    have hql : nq < nz := by omega
                    clear hin' hnq
                    go_wp2_with fail
                    refine HP.out.mono ?_
                    rintro e wg ⟨Ag, cg, rfl, og, b⟩
                    dsimp only at og ⊢
                    have BG := Lib.hid (below3 BQ.out b)
                    have hcg := og.cap
                    clear b og HP
                    go_wp2_with fail
                    go_roundw
                    case rel => exact ⟨j + 1, by omega, by go_num, BG⟩
                    case measure => simp [intOf]; omega
              · have hjn' : j = ny := by omega
                have BF := Lib.hid (below3 BX.out BI.out)
                have OF := Lib.hid (OX.out.below BI.out)
                have HNF := HNX
                have HOF := HOX
                clear BI hjn'
                go_wp2_with fail
                go_roundw
                case rel => exact ⟨k + 1, Ay, cy, ny, ys, by omega, by go_num, rfl, HNF, HOF, OF, BF⟩
                case measure => simp [intOf]; omega
          · have HOX := HOL
            have te : (er == 0) = false := by simpa using h0
            clear OY HNY HYS h0
            have HNX := HNL
            have OX := OL
            clear HNL OL HOL
            have HCX := Lib.hid (checkR_yes HOX.out)
            have hcx := OX.out.cap
            rw [HNX.out] at hcx
            have hnx : nl ≤ 256 := by rw [← HNX.out]; exact HOX.out.1
            go_wp2_with fail
            refine (pcheck_any Al nl cl ls _ (OX.out.tmsN HNX.out)).mono ?_
            rw [HCX.out]
            rintro e wc ⟨rfl, b⟩
            replace OX := Lib.hid (OX.out.below b)
            replace BX := Lib.hid (below3 BX.out b)
            clear b HCX
            go_wp2_with fail
            go_loopw [71] (fun t wr => ∃ j : Nat, j ≤ nl ∧ t = .int .i64 j ∧ Hid (Below wc.heap.size wc wr)) (fun t _ => nl - (intOf t).toNat)
            case atStart => exact ⟨0, Nat.zero_le _, rfl, Lib.hid (Below.refl _ _)⟩
            case round =>
              rename World => wi
              obtain ⟨j, hj, rfl, BI⟩ := hrel
              by_cases hjn : j < nl
              · obtain ⟨bL, oL, rfl, hbL, c0, c1⟩ := ((OX.out.tmsN HNX.out).below BI.out).at_ hjn
                have hjl : j < ls.length := by rw [HNX.out]; exact hjn
                have fz := (OX.out.tmsN HNX.out).fit hjn
                obtain ⟨z1, hz1⟩ : ∃ z, jO ls j = z := ⟨_, rfl⟩
                obtain ⟨z2, hz2⟩ : ∃ z, jA ls j = z := ⟨_, rfl⟩
                have hit : ith ls j = (z1, z2) := by rw [← hz1, ← hz2]; rfl
                rw [hz1] at c0 fz
                rw [hz2] at c1 fz
                obtain ⟨zs, hzs⟩ : ∃ zs, wayJ ls z2 = zs := ⟨_, rfl⟩
                obtain ⟨f1, f2, f3, f4, f5, f6, f7⟩ := way_facts HOX.out hjl hit hzs
                have HFT := Lib.hid (wayJ_fit (OX.out.tmsN HNX.out).2.2.1 z2)
                rw [hzs] at HFT
                obtain ⟨nz, hnz⟩ : ∃ m, zs.length = m := ⟨_, rfl⟩
                rw [hnz] at f1 f2 f4 f7
                have HNZ := Lib.hid hnz
                obtain ⟨la, hla⟩ : ∃ v, nth zs (nz - 1) = v := ⟨_, rfl⟩
                rw [hla] at f7
                have HLA := Lib.hid hla
                have HF4 := Lib.hid f4
                have HF6 := Lib.hid f6
                have HF7 := Lib.hid f7
                have HF3 := Lib.hid f3
                have FZ := Lib.hid fz
                have FLA : Hid (Fit la) := Lib.hid (by
                  rw [← hla, nth_get (by omega)]
                  exact HFT.out _ (List.getElem_mem _))
                have k1 := Bk.new wi 37 #[.int .i64 z1, .int .i64 z2]
                have b1 := (Below.refl wi.heap.size wi).alloc (Nat.le_refl _) (.cells #[.int .i64 z1, .int .i64 z2] 37)
                have d0 := k1.c0
                have d1 := k1.c1
                have HXL := Lib.hid ((OX.out.tmsN HNX.out).below (below3 BI.out b1))
                have B9 := Lib.hid (below3 BI.out b1)
                have HK := Lib.hid k1
                obtain ⟨gx, hgx⟩ : ∃ g, wi.heap.size = g := ⟨_, rfl⟩
                obtain ⟨V, hV⟩ : ∃ V, wi.alloc (.cells #[.int .i64 z1, .int .i64 z2] 37) = V := ⟨_, rfl⟩
                have HP := Lib.hid (pfor_any (some ⟨bL, oL, none⟩) nl cl ls z2 (wi.alloc (.cells #[.int .i64 z1, .int .i64 z2] 37)) HXL.out FZ.out.2)
                rw [HF6.out] at HP
                clear hz1 hz2 hit hzs hnz hla f3 f4 f5 f6 f7 fz k1 b1 BI HFT hgx hV
                go_wp2_with fail
                refine HP.out.mono ?_
                rintro e wf ⟨Az, cz, rfl, oz, b⟩
                dsimp only at oz ⊢
                rw [HNZ.out]
                have BF := Lib.hid (below3 B9.out b)
                have KF := Lib.hid (HK.out.below b HK.out.lt)
                have OZ := Lib.hid oz
                have e0 := KF.out.c0
                have e1 := KF.out.c1
                have lk := KF.out.lt
                have hcz := oz.cap
                rw [HNZ.out] at hcz
                obtain ⟨bZ, oZ, rfl, hbZ, cZ⟩ := (OZ.out.intsN HNZ.out).at_ f1
                rw [HF3.out, Nat.add_zero] at cZ
                have tn : (z1 != z1) = false := by simp
                have tz : ((nz : Int) == 0) = false := by simp; omega
                clear b oz HP HK B9 d0 d1 c0 c1 HXL HF6
                go_wp2_with fail
                go_quiet (fail)
                go_wp2_with fail
                generalize hwq : World.drewN wf _ = wq
                have bq : Below wf.heap.size wf wq := by rw [← hwq]; exact drew_below _ _
                have KQ := Lib.hid (KF.out.below bq KF.out.lt)
                have BQ := Lib.hid (below3 BF.out bq)
                have OZQ := Lib.hid (OZ.out.below bq)
                have e0 := KQ.out.c0
                have e1 := KQ.out.c1
                have lk := KQ.out.lt
                clear hwq bq KF BF OZ cZ hbZ
                go_loopw [99] (fun t wr => ∃ i : Nat, i ≤ nz ∧ t = .int .i64 i ∧ wr = wq) (fun t _ => nz - (intOf t).toNat)
                case atStart => exact ⟨0, Nat.zero_le _, rfl, rfl⟩
                case round =>
                  rename World => wr
                  obtain ⟨i, hi, rfl, rfl⟩ := hrel
                  by_cases hin : i < nz
                  · obtain ⟨bY, oY, eY, hbY, cY⟩ := (OZQ.out.intsN HNZ.out).at_ hin
                    injection eY with eY
                    injection eY with eY1 eY2 _
                    subst eY1 eY2
                    obtain ⟨v, hv⟩ : ∃ v, nth zs i = v := ⟨_, rfl⟩
                    have tv : (v == z2) = false := by have := HF4.out i hin; rw [hv] at this; simpa using this
                    rw [hv] at cY
                    clear hv
                    go_wp2_with fail
                    go_roundw
                    case rel => exact ⟨i + 1, by omega, by go_num, trivial⟩
                    case measure => simp [intOf]; omega
                  · have hin' : i = nz := by omega
                    obtain ⟨bY, oY, eY, hbY, cY⟩ := (OZQ.out.intsN HNZ.out).at_ (k := nz - 1) (by omega)
                    injection eY with eY
                    injection eY with eY1 eY2 _
                    subst eY1 eY2
                    rw [HLA.out] at cY
                    have HP := Lib.hid (pfor_any (some ⟨bL, oL, none⟩) nl cl ls la wr ((OX.out.tmsN HNX.out).below BQ.out) FLA.out)
                    rw [HF7.out] at HP
                    have hwr : IntKind.i64.wrap ((nz : Int) - 1) = ((nz - 1 : Nat) : Int) := by rw [IntKind.wrap_i64]; omega
                    have hwr2 : IntKind.i64.wrap (-1 + (nz : Int)) = ((nz - 1 : Nat) : Int) := by rw [IntKind.wrap_i64]; omega
                    obtain ⟨nq, hnq⟩ : ∃ q, nz - 1 = q := ⟨_, rfl⟩
                    rw [hnq] at cY hwr hwr2
                    have hql : nq < nz := by omega
                    clear hin' hnq
                    go_wp2_with fail
                    refine HP.out.mono ?_
                    rintro e wg ⟨Ag, cg, rfl, og, b⟩
                    dsimp only at og ⊢
                    have BG := Lib.hid (below3 BQ.out b)
                    have hcg := og.cap
                    clear b og HP
                    go_wp2_with fail
                    go_roundw
                    case rel => exact ⟨j + 1, by omega, by go_num, BG⟩
                    case measure => simp [intOf]; omega
              · have hjn' : j = nl := by omega
                have BF := Lib.hid (below3 BX.out BI.out)
                have OF := Lib.hid (OX.out.below BI.out)
                have HNF := HNX
                have HOF := HOX
                clear BI hjn'
                go_wp2_with fail
                go_roundw
                case rel => exact ⟨k + 1, Al, cl, nl, ls, by omega, by go_num, rfl, HNF, HOF, OF, BF⟩
                case measure => simp [intOf]; omega
        · have tk0 : (kd.tmod 3 == 0) = false := by simpa using hk0
          by_cases hk1 : kd.tmod 3 = 1
          · have tk1 : (kd.tmod 3 == 1) = true := by simpa using hk1
            clear hk0 hk1
            have HR : Hid (doneR ls x = (0, goesL ls x, leftL ls x)) := Lib.hid (if_pos HOL.out)
            have HOX := Lib.hid (HOL.out.left x)
            obtain ⟨ys, hys⟩ : ∃ r, leftL ls x = r := ⟨_, rfl⟩
            rw [hys] at HR HOX
            obtain ⟨ny, hny⟩ : ∃ m, ys.length = m := ⟨_, rfl⟩
            have HNX := Lib.hid hny
            clear hys hny
            go_wp2_with fail
            refine (pdone_any Al nl cl ls x _ (OL.out.tmsN HNL.out)).mono ?_
            rw [HR.out]
            rintro e wb ⟨Ag0, cg0, Ay, cy, rfl, og0, oy, b⟩
            dsimp only at og0 oy ⊢
            rw [HNX.out]
            have OX := Lib.hid (oy.base BB.out.size)
            have BX := Lib.hid (below3 BB.out b)
            clear b oy og0 HR BB d0 d1 d2 lk1 c0 c1 c2 hbO OL HOL HNL hcl
            have HCX := Lib.hid (checkR_yes HOX.out)
            have hcx := OX.out.cap
            rw [HNX.out] at hcx
            have hnx : ny ≤ 256 := by rw [← HNX.out]; exact HOX.out.1
            go_wp2_with fail
            refine (pcheck_any Ay ny cy ys _ (OX.out.tmsN HNX.out)).mono ?_
            rw [HCX.out]
            rintro e wc ⟨rfl, b⟩
            replace OX := Lib.hid (OX.out.below b)
            replace BX := Lib.hid (below3 BX.out b)
            clear b HCX
            go_wp2_with fail
            go_loopw [71] (fun t wr => ∃ j : Nat, j ≤ ny ∧ t = .int .i64 j ∧ Hid (Below wc.heap.size wc wr)) (fun t _ => ny - (intOf t).toNat)
            case atStart => exact ⟨0, Nat.zero_le _, rfl, Lib.hid (Below.refl _ _)⟩
            case round =>
              rename World => wi
              obtain ⟨j, hj, rfl, BI⟩ := hrel
              by_cases hjn : j < ny
              · obtain ⟨bL, oL, rfl, hbL, c0, c1⟩ := ((OX.out.tmsN HNX.out).below BI.out).at_ hjn
                have hjl : j < ys.length := by rw [HNX.out]; exact hjn
                have fz := (OX.out.tmsN HNX.out).fit hjn
                obtain ⟨z1, hz1⟩ : ∃ z, jO ys j = z := ⟨_, rfl⟩
                obtain ⟨z2, hz2⟩ : ∃ z, jA ys j = z := ⟨_, rfl⟩
                have hit : ith ys j = (z1, z2) := by rw [← hz1, ← hz2]; rfl
                rw [hz1] at c0 fz
                rw [hz2] at c1 fz
                obtain ⟨zs, hzs⟩ : ∃ zs, wayJ ys z2 = zs := ⟨_, rfl⟩
                obtain ⟨f1, f2, f3, f4, f5, f6, f7⟩ := way_facts HOX.out hjl hit hzs
                have HFT := Lib.hid (wayJ_fit (OX.out.tmsN HNX.out).2.2.1 z2)
                rw [hzs] at HFT
                obtain ⟨nz, hnz⟩ : ∃ m, zs.length = m := ⟨_, rfl⟩
                rw [hnz] at f1 f2 f4 f7
                have HNZ := Lib.hid hnz
                obtain ⟨la, hla⟩ : ∃ v, nth zs (nz - 1) = v := ⟨_, rfl⟩
                rw [hla] at f7
                have HLA := Lib.hid hla
                have HF4 := Lib.hid f4
                have HF6 := Lib.hid f6
                have HF7 := Lib.hid f7
                have HF3 := Lib.hid f3
                have FZ := Lib.hid fz
                have FLA : Hid (Fit la) := Lib.hid (by
                  rw [← hla, nth_get (by omega)]
                  exact HFT.out _ (List.getElem_mem _))
                have k1 := Bk.new wi 37 #[.int .i64 z1, .int .i64 z2]
                have b1 := (Below.refl wi.heap.size wi).alloc (Nat.le_refl _) (.cells #[.int .i64 z1, .int .i64 z2] 37)
                have d0 := k1.c0
                have d1 := k1.c1
                have HXL := Lib.hid ((OX.out.tmsN HNX.out).below (below3 BI.out b1))
                have B9 := Lib.hid (below3 BI.out b1)
                have HK := Lib.hid k1
                obtain ⟨gx, hgx⟩ : ∃ g, wi.heap.size = g := ⟨_, rfl⟩
                obtain ⟨V, hV⟩ : ∃ V, wi.alloc (.cells #[.int .i64 z1, .int .i64 z2] 37) = V := ⟨_, rfl⟩
                have HP := Lib.hid (pfor_any (some ⟨bL, oL, none⟩) ny cy ys z2 (wi.alloc (.cells #[.int .i64 z1, .int .i64 z2] 37)) HXL.out FZ.out.2)
                rw [HF6.out] at HP
                clear hz1 hz2 hit hzs hnz hla f3 f4 f5 f6 f7 fz k1 b1 BI HFT hgx hV
                go_wp2_with fail
                refine HP.out.mono ?_
                rintro e wf ⟨Az, cz, rfl, oz, b⟩
                dsimp only at oz ⊢
                rw [HNZ.out]
                have BF := Lib.hid (below3 B9.out b)
                have KF := Lib.hid (HK.out.below b HK.out.lt)
                have OZ := Lib.hid oz
                have e0 := KF.out.c0
                have e1 := KF.out.c1
                have lk := KF.out.lt
                have hcz := oz.cap
                rw [HNZ.out] at hcz
                obtain ⟨bZ, oZ, rfl, hbZ, cZ⟩ := (OZ.out.intsN HNZ.out).at_ f1
                rw [HF3.out, Nat.add_zero] at cZ
                have tn : (z1 != z1) = false := by simp
                have tz : ((nz : Int) == 0) = false := by simp; omega
                clear b oz HP HK B9 d0 d1 c0 c1 HXL HF6
                go_wp2_with fail
                go_quiet (fail)
                go_wp2_with fail
                generalize hwq : World.drewN wf _ = wq
                have bq : Below wf.heap.size wf wq := by rw [← hwq]; exact drew_below _ _
                have KQ := Lib.hid (KF.out.below bq KF.out.lt)
                have BQ := Lib.hid (below3 BF.out bq)
                have OZQ := Lib.hid (OZ.out.below bq)
                have e0 := KQ.out.c0
                have e1 := KQ.out.c1
                have lk := KQ.out.lt
                clear hwq bq KF BF OZ cZ hbZ
                go_loopw [99] (fun t wr => ∃ i : Nat, i ≤ nz ∧ t = .int .i64 i ∧ wr = wq) (fun t _ => nz - (intOf t).toNat)
                case atStart => exact ⟨0, Nat.zero_le _, rfl, rfl⟩
                case round =>
                  rename World => wr
                  obtain ⟨i, hi, rfl, rfl⟩ := hrel
                  by_cases hin : i < nz
                  · obtain ⟨bY, oY, eY, hbY, cY⟩ := (OZQ.out.intsN HNZ.out).at_ hin
                    injection eY with eY
                    injection eY with eY1 eY2 _
                    subst eY1 eY2
                    obtain ⟨v, hv⟩ : ∃ v, nth zs i = v := ⟨_, rfl⟩
                    have tv : (v == z2) = false := by have := HF4.out i hin; rw [hv] at this; simpa using this
                    rw [hv] at cY
                    clear hv
                    go_wp2_with fail
                    go_roundw
                    case rel => exact ⟨i + 1, by omega, by go_num, trivial⟩
                    case measure => simp [intOf]; omega
                  · have hin' : i = nz := by omega
                    obtain ⟨bY, oY, eY, hbY, cY⟩ := (OZQ.out.intsN HNZ.out).at_ (k := nz - 1) (by omega)
                    injection eY with eY
                    injection eY with eY1 eY2 _
                    subst eY1 eY2
                    rw [HLA.out] at cY
                    have HP := Lib.hid (pfor_any (some ⟨bL, oL, none⟩) ny cy ys la wr ((OX.out.tmsN HNX.out).below BQ.out) FLA.out)
                    rw [HF7.out] at HP
                    have hwr : IntKind.i64.wrap ((nz : Int) - 1) = ((nz - 1 : Nat) : Int) := by rw [IntKind.wrap_i64]; omega
                    have hwr2 : IntKind.i64.wrap (-1 + (nz : Int)) = ((nz - 1 : Nat) : Int) := by rw [IntKind.wrap_i64]; omega
                    obtain ⟨nq, hnq⟩ : ∃ q, nz - 1 = q := ⟨_, rfl⟩
                    rw [hnq] at cY hwr hwr2
                    have hql : nq < nz := by omega
                    clear hin' hnq
                    go_wp2_with fail
                    refine HP.out.mono ?_
                    rintro e wg ⟨Ag, cg, rfl, og, b⟩
                    dsimp only at og ⊢
                    have BG := Lib.hid (below3 BQ.out b)
                    have hcg := og.cap
                    clear b og HP
                    go_wp2_with fail
                    go_roundw
                    case rel => exact ⟨j + 1, by omega, by go_num, BG⟩
                    case measure => simp [intOf]; omega
              · have hjn' : j = ny := by omega
                have BF := Lib.hid (below3 BX.out BI.out)
                have OF := Lib.hid (OX.out.below BI.out)
                have HNF := HNX
                have HOF := HOX
                clear BI hjn'
                go_wp2_with fail
                go_roundw
                case rel => exact ⟨k + 1, Ay, cy, ny, ys, by omega, by go_num, rfl, HNF, HOF, OF, BF⟩
                case measure => simp [intOf]; omega
          · have tk1 : (kd.tmod 3 == 1) = false := by simpa using hk1
            clear hk0 hk1
            obtain ⟨⟨er, ys⟩, hr⟩ : ∃ r, dropR ls y = r := ⟨_, rfl⟩
            have HR := Lib.hid hr
            have HYS := Lib.hid (fun h => drop_ok hr h)
            obtain ⟨ny, hny⟩ : ∃ m, ys.length = m := ⟨_, rfl⟩
            have HNY := Lib.hid hny
            clear hr hny
            go_wp2_with fail
            refine (pdrop_any Al nl cl ls y _ (OL.out.tmsN HNL.out) FY.out).mono ?_
            rw [HR.out]
            rintro e wb ⟨Ay, cy, rfl, oy, b⟩
            dsimp only at oy ⊢
            rw [HNY.out]
            have OY := Lib.hid (oy.base BB.out.size)
            have BX := Lib.hid (below3 BB.out b)
            replace OL := Lib.hid (OL.out.below b)
            clear b oy HR BB d0 d1 d2 lk1 c0 c1 c2 hbO
            by_cases h0 : er = 0
            · have HOX : Hid (okJ ys) := Lib.hid (HYS.out h0)
              have te : (er == 0) = true := by simpa using h0
              clear OL HOL HNL HYS h0 hcl
              have HNX := HNY
              have OX := OY
              clear HNY OY

              have HCX := Lib.hid (checkR_yes HOX.out)
              have hcx := OX.out.cap
              rw [HNX.out] at hcx
              have hnx : ny ≤ 256 := by rw [← HNX.out]; exact HOX.out.1
              go_wp2_with fail
              refine (pcheck_any Ay ny cy ys _ (OX.out.tmsN HNX.out)).mono ?_
              rw [HCX.out]
              rintro e wc ⟨rfl, b⟩
              replace OX := Lib.hid (OX.out.below b)
              replace BX := Lib.hid (below3 BX.out b)
              clear b HCX
              go_wp2_with fail
              go_loopw [71] (fun t wr => ∃ j : Nat, j ≤ ny ∧ t = .int .i64 j ∧ Hid (Below wc.heap.size wc wr)) (fun t _ => ny - (intOf t).toNat)
              case atStart => exact ⟨0, Nat.zero_le _, rfl, Lib.hid (Below.refl _ _)⟩
              case round =>
                rename World => wi
                obtain ⟨j, hj, rfl, BI⟩ := hrel
                by_cases hjn : j < ny
                · obtain ⟨bL, oL, rfl, hbL, c0, c1⟩ := ((OX.out.tmsN HNX.out).below BI.out).at_ hjn
                  have hjl : j < ys.length := by rw [HNX.out]; exact hjn
                  have fz := (OX.out.tmsN HNX.out).fit hjn
                  obtain ⟨z1, hz1⟩ : ∃ z, jO ys j = z := ⟨_, rfl⟩
                  obtain ⟨z2, hz2⟩ : ∃ z, jA ys j = z := ⟨_, rfl⟩
                  have hit : ith ys j = (z1, z2) := by rw [← hz1, ← hz2]; rfl
                  rw [hz1] at c0 fz
                  rw [hz2] at c1 fz
                  obtain ⟨zs, hzs⟩ : ∃ zs, wayJ ys z2 = zs := ⟨_, rfl⟩
                  obtain ⟨f1, f2, f3, f4, f5, f6, f7⟩ := way_facts HOX.out hjl hit hzs
                  have HFT := Lib.hid (wayJ_fit (OX.out.tmsN HNX.out).2.2.1 z2)
                  rw [hzs] at HFT
                  obtain ⟨nz, hnz⟩ : ∃ m, zs.length = m := ⟨_, rfl⟩
                  rw [hnz] at f1 f2 f4 f7
                  have HNZ := Lib.hid hnz
                  obtain ⟨la, hla⟩ : ∃ v, nth zs (nz - 1) = v := ⟨_, rfl⟩
                  rw [hla] at f7
                  have HLA := Lib.hid hla
                  have HF4 := Lib.hid f4
                  have HF6 := Lib.hid f6
                  have HF7 := Lib.hid f7
                  have HF3 := Lib.hid f3
                  have FZ := Lib.hid fz
                  have FLA : Hid (Fit la) := Lib.hid (by
                    rw [← hla, nth_get (by omega)]
                    exact HFT.out _ (List.getElem_mem _))
                  have k1 := Bk.new wi 37 #[.int .i64 z1, .int .i64 z2]
                  have b1 := (Below.refl wi.heap.size wi).alloc (Nat.le_refl _) (.cells #[.int .i64 z1, .int .i64 z2] 37)
                  have d0 := k1.c0
                  have d1 := k1.c1
                  have HXL := Lib.hid ((OX.out.tmsN HNX.out).below (below3 BI.out b1))
                  have B9 := Lib.hid (below3 BI.out b1)
                  have HK := Lib.hid k1
                  obtain ⟨gx, hgx⟩ : ∃ g, wi.heap.size = g := ⟨_, rfl⟩
                  obtain ⟨V, hV⟩ : ∃ V, wi.alloc (.cells #[.int .i64 z1, .int .i64 z2] 37) = V := ⟨_, rfl⟩
                  have HP := Lib.hid (pfor_any (some ⟨bL, oL, none⟩) ny cy ys z2 (wi.alloc (.cells #[.int .i64 z1, .int .i64 z2] 37)) HXL.out FZ.out.2)
                  rw [HF6.out] at HP
                  clear hz1 hz2 hit hzs hnz hla f3 f4 f5 f6 f7 fz k1 b1 BI HFT hgx hV
                  go_wp2_with fail
                  refine HP.out.mono ?_
                  rintro e wf ⟨Az, cz, rfl, oz, b⟩
                  dsimp only at oz ⊢
                  rw [HNZ.out]
                  have BF := Lib.hid (below3 B9.out b)
                  have KF := Lib.hid (HK.out.below b HK.out.lt)
                  have OZ := Lib.hid oz
                  have e0 := KF.out.c0
                  have e1 := KF.out.c1
                  have lk := KF.out.lt
                  have hcz := oz.cap
                  rw [HNZ.out] at hcz
                  obtain ⟨bZ, oZ, rfl, hbZ, cZ⟩ := (OZ.out.intsN HNZ.out).at_ f1
                  rw [HF3.out, Nat.add_zero] at cZ
                  have tn : (z1 != z1) = false := by simp
                  have tz : ((nz : Int) == 0) = false := by simp; omega
                  clear b oz HP HK B9 d0 d1 c0 c1 HXL HF6
                  go_wp2_with fail
                  go_quiet (fail)
                  go_wp2_with fail
                  generalize hwq : World.drewN wf _ = wq
                  have bq : Below wf.heap.size wf wq := by rw [← hwq]; exact drew_below _ _
                  have KQ := Lib.hid (KF.out.below bq KF.out.lt)
                  have BQ := Lib.hid (below3 BF.out bq)
                  have OZQ := Lib.hid (OZ.out.below bq)
                  have e0 := KQ.out.c0
                  have e1 := KQ.out.c1
                  have lk := KQ.out.lt
                  clear hwq bq KF BF OZ cZ hbZ
                  go_loopw [99] (fun t wr => ∃ i : Nat, i ≤ nz ∧ t = .int .i64 i ∧ wr = wq) (fun t _ => nz - (intOf t).toNat)
                  case atStart => exact ⟨0, Nat.zero_le _, rfl, rfl⟩
                  case round =>
                    rename World => wr
                    obtain ⟨i, hi, rfl, rfl⟩ := hrel
                    by_cases hin : i < nz
                    · obtain ⟨bY, oY, eY, hbY, cY⟩ := (OZQ.out.intsN HNZ.out).at_ hin
                      injection eY with eY
                      injection eY with eY1 eY2 _
                      subst eY1 eY2
                      obtain ⟨v, hv⟩ : ∃ v, nth zs i = v := ⟨_, rfl⟩
                      have tv : (v == z2) = false := by have := HF4.out i hin; rw [hv] at this; simpa using this
                      rw [hv] at cY
                      clear hv
                      go_wp2_with fail
                      go_roundw
                      case rel => exact ⟨i + 1, by omega, by go_num, trivial⟩
                      case measure => simp [intOf]; omega
                    · have hin' : i = nz := by omega
                      obtain ⟨bY, oY, eY, hbY, cY⟩ := (OZQ.out.intsN HNZ.out).at_ (k := nz - 1) (by omega)
                      injection eY with eY
                      injection eY with eY1 eY2 _
                      subst eY1 eY2
                      rw [HLA.out] at cY
                      have HP := Lib.hid (pfor_any (some ⟨bL, oL, none⟩) ny cy ys la wr ((OX.out.tmsN HNX.out).below BQ.out) FLA.out)
                      rw [HF7.out] at HP
                      have hwr : IntKind.i64.wrap ((nz : Int) - 1) = ((nz - 1 : Nat) : Int) := by rw [IntKind.wrap_i64]; omega
                      have hwr2 : IntKind.i64.wrap (-1 + (nz : Int)) = ((nz - 1 : Nat) : Int) := by rw [IntKind.wrap_i64]; omega
                      obtain ⟨nq, hnq⟩ : ∃ q, nz - 1 = q := ⟨_, rfl⟩
                      rw [hnq] at cY hwr hwr2
                      have hql : nq < nz := by omega
                      clear hin' hnq
                      go_wp2_with fail
                      refine HP.out.mono ?_
                      rintro e wg ⟨Ag, cg, rfl, og, b⟩
                      dsimp only at og ⊢
                      have BG := Lib.hid (below3 BQ.out b)
                      have hcg := og.cap
                      clear b og HP
                      go_wp2_with fail
                      go_roundw
                      case rel => exact ⟨j + 1, by omega, by go_num, BG⟩
                      case measure => simp [intOf]; omega
                · have hjn' : j = ny := by omega
                  have BF := Lib.hid (below3 BX.out BI.out)
                  have OF := Lib.hid (OX.out.below BI.out)
                  have HNF := HNX
                  have HOF := HOX
                  clear BI hjn'
                  go_wp2_with fail
                  go_roundw
                  case rel => exact ⟨k + 1, Ay, cy, ny, ys, by omega, by go_num, rfl, HNF, HOF, OF, BF⟩
                  case measure => simp [intOf]; omega
            · have HOX := HOL
              have te : (er == 0) = false := by simpa using h0
              clear OY HNY HYS h0
              have HNX := HNL
              have OX := OL
              clear HNL OL HOL
              have HCX := Lib.hid (checkR_yes HOX.out)
              have hcx := OX.out.cap
              rw [HNX.out] at hcx
              have hnx : nl ≤ 256 := by rw [← HNX.out]; exact HOX.out.1
              go_wp2_with fail
              refine (pcheck_any Al nl cl ls _ (OX.out.tmsN HNX.out)).mono ?_
              rw [HCX.out]
              rintro e wc ⟨rfl, b⟩
              replace OX := Lib.hid (OX.out.below b)
              replace BX := Lib.hid (below3 BX.out b)
              clear b HCX
              go_wp2_with fail
              go_loopw [71] (fun t wr => ∃ j : Nat, j ≤ nl ∧ t = .int .i64 j ∧ Hid (Below wc.heap.size wc wr)) (fun t _ => nl - (intOf t).toNat)
              case atStart => exact ⟨0, Nat.zero_le _, rfl, Lib.hid (Below.refl _ _)⟩
              case round =>
                rename World => wi
                obtain ⟨j, hj, rfl, BI⟩ := hrel
                by_cases hjn : j < nl
                · obtain ⟨bL, oL, rfl, hbL, c0, c1⟩ := ((OX.out.tmsN HNX.out).below BI.out).at_ hjn
                  have hjl : j < ls.length := by rw [HNX.out]; exact hjn
                  have fz := (OX.out.tmsN HNX.out).fit hjn
                  obtain ⟨z1, hz1⟩ : ∃ z, jO ls j = z := ⟨_, rfl⟩
                  obtain ⟨z2, hz2⟩ : ∃ z, jA ls j = z := ⟨_, rfl⟩
                  have hit : ith ls j = (z1, z2) := by rw [← hz1, ← hz2]; rfl
                  rw [hz1] at c0 fz
                  rw [hz2] at c1 fz
                  obtain ⟨zs, hzs⟩ : ∃ zs, wayJ ls z2 = zs := ⟨_, rfl⟩
                  obtain ⟨f1, f2, f3, f4, f5, f6, f7⟩ := way_facts HOX.out hjl hit hzs
                  have HFT := Lib.hid (wayJ_fit (OX.out.tmsN HNX.out).2.2.1 z2)
                  rw [hzs] at HFT
                  obtain ⟨nz, hnz⟩ : ∃ m, zs.length = m := ⟨_, rfl⟩
                  rw [hnz] at f1 f2 f4 f7
                  have HNZ := Lib.hid hnz
                  obtain ⟨la, hla⟩ : ∃ v, nth zs (nz - 1) = v := ⟨_, rfl⟩
                  rw [hla] at f7
                  have HLA := Lib.hid hla
                  have HF4 := Lib.hid f4
                  have HF6 := Lib.hid f6
                  have HF7 := Lib.hid f7
                  have HF3 := Lib.hid f3
                  have FZ := Lib.hid fz
                  have FLA : Hid (Fit la) := Lib.hid (by
                    rw [← hla, nth_get (by omega)]
                    exact HFT.out _ (List.getElem_mem _))
                  have k1 := Bk.new wi 37 #[.int .i64 z1, .int .i64 z2]
                  have b1 := (Below.refl wi.heap.size wi).alloc (Nat.le_refl _) (.cells #[.int .i64 z1, .int .i64 z2] 37)
                  have d0 := k1.c0
                  have d1 := k1.c1
                  have HXL := Lib.hid ((OX.out.tmsN HNX.out).below (below3 BI.out b1))
                  have B9 := Lib.hid (below3 BI.out b1)
                  have HK := Lib.hid k1
                  obtain ⟨gx, hgx⟩ : ∃ g, wi.heap.size = g := ⟨_, rfl⟩
                  obtain ⟨V, hV⟩ : ∃ V, wi.alloc (.cells #[.int .i64 z1, .int .i64 z2] 37) = V := ⟨_, rfl⟩
                  have HP := Lib.hid (pfor_any (some ⟨bL, oL, none⟩) nl cl ls z2 (wi.alloc (.cells #[.int .i64 z1, .int .i64 z2] 37)) HXL.out FZ.out.2)
                  rw [HF6.out] at HP
                  clear hz1 hz2 hit hzs hnz hla f3 f4 f5 f6 f7 fz k1 b1 BI HFT hgx hV
                  go_wp2_with fail
                  refine HP.out.mono ?_
                  rintro e wf ⟨Az, cz, rfl, oz, b⟩
                  dsimp only at oz ⊢
                  rw [HNZ.out]
                  have BF := Lib.hid (below3 B9.out b)
                  have KF := Lib.hid (HK.out.below b HK.out.lt)
                  have OZ := Lib.hid oz
                  have e0 := KF.out.c0
                  have e1 := KF.out.c1
                  have lk := KF.out.lt
                  have hcz := oz.cap
                  rw [HNZ.out] at hcz
                  obtain ⟨bZ, oZ, rfl, hbZ, cZ⟩ := (OZ.out.intsN HNZ.out).at_ f1
                  rw [HF3.out, Nat.add_zero] at cZ
                  have tn : (z1 != z1) = false := by simp
                  have tz : ((nz : Int) == 0) = false := by simp; omega
                  clear b oz HP HK B9 d0 d1 c0 c1 HXL HF6
                  go_wp2_with fail
                  go_quiet (fail)
                  go_wp2_with fail
                  generalize hwq : World.drewN wf _ = wq
                  have bq : Below wf.heap.size wf wq := by rw [← hwq]; exact drew_below _ _
                  have KQ := Lib.hid (KF.out.below bq KF.out.lt)
                  have BQ := Lib.hid (below3 BF.out bq)
                  have OZQ := Lib.hid (OZ.out.below bq)
                  have e0 := KQ.out.c0
                  have e1 := KQ.out.c1
                  have lk := KQ.out.lt
                  clear hwq bq KF BF OZ cZ hbZ
                  go_loopw [99] (fun t wr => ∃ i : Nat, i ≤ nz ∧ t = .int .i64 i ∧ wr = wq) (fun t _ => nz - (intOf t).toNat)
                  case atStart => exact ⟨0, Nat.zero_le _, rfl, rfl⟩
                  case round =>
                    rename World => wr
                    obtain ⟨i, hi, rfl, rfl⟩ := hrel
                    by_cases hin : i < nz
                    · obtain ⟨bY, oY, eY, hbY, cY⟩ := (OZQ.out.intsN HNZ.out).at_ hin
                      injection eY with eY
                      injection eY with eY1 eY2 _
                      subst eY1 eY2
                      obtain ⟨v, hv⟩ : ∃ v, nth zs i = v := ⟨_, rfl⟩
                      have tv : (v == z2) = false := by have := HF4.out i hin; rw [hv] at this; simpa using this
                      rw [hv] at cY
                      clear hv
                      go_wp2_with fail
                      go_roundw
                      case rel => exact ⟨i + 1, by omega, by go_num, trivial⟩
                      case measure => simp [intOf]; omega
                    · have hin' : i = nz := by omega
                      obtain ⟨bY, oY, eY, hbY, cY⟩ := (OZQ.out.intsN HNZ.out).at_ (k := nz - 1) (by omega)
                      injection eY with eY
                      injection eY with eY1 eY2 _
                      subst eY1 eY2
                      rw [HLA.out] at cY
                      have HP := Lib.hid (pfor_any (some ⟨bL, oL, none⟩) nl cl ls la wr ((OX.out.tmsN HNX.out).below BQ.out) FLA.out)
                      rw [HF7.out] at HP
                      have hwr : IntKind.i64.wrap ((nz : Int) - 1) = ((nz - 1 : Nat) : Int) := by rw [IntKind.wrap_i64]; omega
                      have hwr2 : IntKind.i64.wrap (-1 + (nz : Int)) = ((nz - 1 : Nat) : Int) := by rw [IntKind.wrap_i64]; omega
                      obtain ⟨nq, hnq⟩ : ∃ q, nz - 1 = q := ⟨_, rfl⟩
                      rw [hnq] at cY hwr hwr2
                      have hql : nq < nz := by omega
                      clear hin' hnq
                      go_wp2_with fail
                      refine HP.out.mono ?_
                      rintro e wg ⟨Ag, cg, rfl, og, b⟩
                      dsimp only at og ⊢
                      have BG := Lib.hid (below3 BQ.out b)
                      have hcg := og.cap
                      clear b og HP
                      go_wp2_with fail
                      go_roundw
                      case rel => exact ⟨j + 1, by omega, by go_num, BG⟩
                      case measure => simp [intOf]; omega
                · have hjn' : j = nl := by omega
                  have BF := Lib.hid (below3 BX.out BI.out)
                  have OF := Lib.hid (OX.out.below BI.out)
                  have HNF := HNX
                  have HOF := HOX
                  clear BI hjn'
                  go_wp2_with fail
                  go_roundw
                  case rel => exact ⟨k + 1, Al, cl, nl, ls, by omega, by go_num, rfl, HNF, HOF, OF, BF⟩
                  case measure => simp [intOf]; omega
      · have hkn' : k = n := by omega
        clear hkn'
        go_wp2_with fail
        go_ret
        exact ⟨rfl, BW.out⟩

end Go.Proofs.Ytkffmohgnbnhkaa

import Derived.Test.YtfhlligcbpnkkaaDoorMg14
import Derived.OrdersHeld
import Derived.Test.YtfhlligcbpnkkaaDoorMg5
import Derived.Test.YtfhlligcbpnkkaaDoorMg11
import Derived.Test.YtfhlligcbpnkkaaDoorMg3

/-
  Layer 18, the program: one more event of a task that was born.
-/
namespace Go.Proofs.YtfhlligcbpnkkaaDoor
open Go.RowKit

theorem gr_cell {w w' : World} {b : Nat} (h : w.grownBy w' (some b)) {p : Addr} (hp : p.block < w.heap.size) (hne : p.block ≠ b) : w'.cell? p = w.cell? p := World.cell?_of_block (h.block _ hp (fun e => hne (Option.some.inj e)))
theorem tk_apart {w : World} {b i : Nat} {t : TypeId} {T : Tk} {L : I3} {A : Option Addr} {n c : Nat} (h : Bk w b t (tkc T L)) (g : w.cell? ⟨b, i, none⟩ = some (.slice A n c)) : False := by
  have := Array.mem_of_getElem? ((h.cell i).symm.trans g)
  simp [tkc] at this

set_option maxHeartbeats 4000000 in
theorem come_there (P : List (List I3)) (l : List I3) (B g n : Nat) (f : Int → Option Nat) (F : Option Addr) (np cp : Nat) (x : I3) (b : Nat) (w : World) (hF : Fol w) (hok : okL P) (hM : MapT P l B w g n f) (hg0 : g ≠ 0) (hgB : g < B) (hBs : B ≤ w.heap.size) (W0 : World) (hP : Prgs W0 F np P) (hW : Below W0.heap.size W0 w) (hWB : W0.heap.size ≤ B) (hWg : W0.heap.size ≤ g) (hx : FitI x) (hl : l.length < 100000) (h1 : x.1 ≠ 1) (hf : f x.2.1 = some b) :
    Calls Tryd.prog 34 #[.map (some g), .slice F np cp, .agg #[.int .i64 x.1, .int .i64 x.2.1, .int .i64 x.2.2]] w (ComeP P l x B g w) := by
  obtain ⟨kd, xi, xa⟩ := x
  have HFo := Lib.hid hF
  have HOK := Lib.hid hok
  have HM := Lib.hid hM
  have HG0 := Lib.hid hg0
  have HGB := Lib.hid hgB
  have HBS := Lib.hid hBs
  have HP := Lib.hid hP
  have HFX : Hid (Fit xi) := Lib.hid hx.2.1
  have HPL := Lib.hid hP.1
  have HW0 := Lib.hid hW
  have HWB := Lib.hid hWB
  have HWG := Lib.hid hWg
  have HNC : Hid (n < 100000) := Lib.hid (by have := hM.cnt; omega)
  clear hF hok hM hg0 hgB hBs hP hW hWB hWg hx hl
  dsimp only
  dsimp only at h1 hf
  have t0 : (kd == 1) = false := by simpa using h1
  have HFN := Lib.hid hf
  clear h1 hf
  obtain ⟨kb0, hb0⟩ := lies1 w #[.int .i64 kd, .int .i64 xi, .int .i64 xa] 41
  obtain ⟨V, hV⟩ : ∃ V, w.alloc (.cells #[.int .i64 kd, .int .i64 xi, .int .i64 xa] 41) = V := ⟨_, rfl⟩
  rw [hV] at hb0 kb0
  have HV := Lib.hid hV
  have BB := Lib.hid hb0
  have KE := Lib.hid kb0
  have HBE : Hid (w.heap.size ≤ w.heap.size) := Lib.hid (by omega)
  clear hV hb0 kb0
  go_enter Tryd.func34, Tryd.ntmps34
  go_upto_region 1 with fail
  rw [HV.out]
  clear HV
  have HM1 := Lib.hid (HM.out.grown BB.out)
  replace HFo := Lib.hid (HFo.out.le BB.out)
  have hlk := HM1.out.map.look HFX.out
  rw [HFN.out] at hlk
  simp only [ptrV, Option.isSome] at hlk
  obtain ⟨qE_0, qE_1, qE_2⟩ := KE.out.c3
  have lE := KE.out.lt
  go_upto_region 4 with fail
  clear hlk
  clear qE_0 qE_1 qE_2 lE
  obtain ⟨h1, T, y, r, h2, h3, h4, h5, h6, h7, h8⟩ := HM1.out.task HOK.out HFN.out
  have HST := Lib.hid (stepT_A P T y (kd, xi, xa))
  have HR := Lib.hid (one_more (x := (kd, xi, xa)) h2 h3)
  obtain ⟨id, tn, pg, pc, un, k0, k1, k2, k3, st, rn⟩ := T
  obtain ⟨lk, li, la⟩ := y
  dsimp only at h6 h7 h8
  have HBt := Lib.hid (Bt.of_big (B := B) (g := g) BB.out HBS.out)
  obtain ⟨b3, o3, B3, m3, c3, rfl, hb3, g0, hpr⟩ := HP.out.at_ (j := pg.toNat) (by have := HPL.out; omega)
  have hp0 := h7
  have hp1 : pg < (np : Int) := by have := HPL.out; omega
  have h2p := h2
  have h3p := h3
  have HT4 : Hid (Bk V b 58 #[.int .i64 id, .int .i64 tn, .int .i64 pg, .int .i64 pc, .int .i64 un, .int .i64 k0, .int .i64 k1, .int .i64 k2, .int .i64 k3, .int .i64 st, .int .i64 rn, .int .i64 lk, .int .i64 li, .int .i64 la]) := Lib.hid h4
  have N3 : Hid (b3 ≠ b) := Lib.hid (by have := HWB.out; omega)
  have HPR := Lib.hid hpr
  replace HW0 := Lib.hid (HW0.out.trans (HBt.out.below HWB.out HWG.out))
  replace g0 := (HW0.out.cell (p := ⟨b3, o3 + pg.toNat, none⟩) hb3).trans g0
  replace hb3 := Nat.lt_of_lt_of_le hb3 HW0.out.size
  have H1 := Lib.hid h1
  have H5 := Lib.hid h5
  have H6 := Lib.hid h6
  have H2 := Lib.hid h2
  have H3 := Lib.hid h3
  clear h1 h2 h3 h4 h5 h6 h7 h8 h2p h3p hpr
  refine wp_region_held (S := fun U => Bk U w.heap.size 41 #[.int .i64 kd, .int .i64 xi, .int .i64 xa] ∧ U.cell? ⟨b3, o3 + pg.toNat, none⟩ = some (.slice B3 m3 c3) ∧ b3 < U.heap.size) (by kernel_rfl) ?_
  change wpAnyH _ _ _ _ _ _ _ _ (World.drew V)
  have bd := (Below.refl V.heap.size V).drew
  have hS0 := And.intro (KE.out.below bd KE.out.lt) (And.intro ((bd.cell (p := ⟨b3, o3 + pg.toNat, none⟩) hb3).trans g0) (Nat.lt_of_lt_of_le hb3 bd.size))
  replace HT4 := Lib.hid (HT4.out.below bd HT4.out.lt)
  replace HM1 := Lib.hid (HM1.out.grown bd)
  replace HW0 := Lib.hid (HW0.out.trans (bd.mono HW0.out.size))
  replace HFo := Lib.hid (HFo.out.le bd)
  have NE : Hid (w.heap.size ≠ b) := Lib.hid (by have h4 := HM.out.at_ xi b HFN.out; obtain ⟨-, T, y, r, -, -, h4⟩ := h4; have := h4.lt; omega)
  replace HBt := Lib.hid (HBt.out.trans (Bt.of_big bd (Nat.le_trans HBS.out BB.out.size)))
  generalize V.drew = U0 at hS0 HT4 HM1 HFo HBt HW0 ⊢
  clear KE bd g0 hb3
  refine take_at (i := 0) (d := 24) (v := .bool true) rfl rfl (by kernel_rfl) (by kernel_rfl) (by kernel_rfl) (fun _ _ _ h => h) (.inl ⟨by kernel_rfl, fun U hU => by go_simp⟩) hS0 ?_
  simp only [Act.put, List.setIfInBounds_toArray, List.set_cons_zero, List.set_cons_succ]
  refine take_at (i := 1) (d := 25) (v := .bool false) rfl rfl (by kernel_rfl) (by kernel_rfl) (by kernel_rfl) (fun _ _ _ h => h) (.inl ⟨by kernel_rfl, fun U hU => by go_simp⟩) hS0 ?_
  simp only [Act.put, List.setIfInBounds_toArray, List.set_cons_zero, List.set_cons_succ]
  refine take_at (i := 2) (d := 26) (v := .bool false) rfl rfl (by kernel_rfl) (by kernel_rfl) (by kernel_rfl) (fun _ _ _ h => h) (.inl ⟨by kernel_rfl, fun U hU => by go_simp⟩) hS0 ?_
  simp only [Act.put, List.setIfInBounds_toArray, List.set_cons_zero, List.set_cons_succ]
  refine take_at (i := 3) (d := 27) (v := .pointer (some ⟨b, 0, none⟩)) rfl rfl (by kernel_rfl) (by kernel_rfl) (by kernel_rfl) (fun _ _ _ h => h) (.inl ⟨by kernel_rfl, fun U hU => by go_simp⟩) hS0 ?_
  simp only [Act.put, List.setIfInBounds_toArray, List.set_cons_zero, List.set_cons_succ]
  refine take_at (i := 4) (d := 28) (v := .slice (some ⟨b3, o3, none⟩) np cp) rfl rfl (by kernel_rfl) (by kernel_rfl) (by kernel_rfl) (fun _ _ _ h => h) (.inl ⟨by kernel_rfl, fun U hU => by go_simp⟩) hS0 ?_
  simp only [Act.put, List.setIfInBounds_toArray, List.set_cons_zero, List.set_cons_succ]
  refine take_at (i := 5) (d := 29) (v := .pointer (some ⟨b, 0, none⟩)) rfl rfl (by kernel_rfl) (by kernel_rfl) (by kernel_rfl) (fun _ _ _ h => h) (.inl ⟨by kernel_rfl, fun U hU => by go_simp⟩) hS0 ?_
  simp only [Act.put, List.setIfInBounds_toArray, List.set_cons_zero, List.set_cons_succ]
  refine take_at (i := 6) (d := 30) (v := .pointer (some ⟨b, 0, none⟩)) rfl rfl (by kernel_rfl) (by kernel_rfl) (by kernel_rfl) (fun _ _ _ h => h) (.inl ⟨by kernel_rfl, fun U hU => by go_simp⟩) hS0 ?_
  simp only [Act.put, List.setIfInBounds_toArray, List.set_cons_zero, List.set_cons_succ]
  refine take_at (i := 7) (d := 31) (v := .pointer (some ⟨b, 0, none⟩)) rfl rfl (by kernel_rfl) (by kernel_rfl) (by kernel_rfl) (fun _ _ _ h => h) (.inl ⟨by kernel_rfl, fun U hU => by go_simp⟩) hS0 ?_
  simp only [Act.put, List.setIfInBounds_toArray, List.set_cons_zero, List.set_cons_succ]
  refine take_at (i := 8) (d := 32) (v := .pointer (some ⟨b, 2, none⟩)) rfl rfl (by kernel_rfl) (by kernel_rfl) (by kernel_rfl) (fun _ _ _ h => h) (.inl ⟨by kernel_rfl, fun U hU => by go_simp⟩) hS0 ?_
  simp only [Act.put, List.setIfInBounds_toArray, List.set_cons_zero, List.set_cons_succ]
  refine take_at (i := 12) (d := 36) (v := .agg #[.int .i64 kd, .int .i64 xi, .int .i64 xa]) rfl rfl (by kernel_rfl) (by kernel_rfl) (by kernel_rfl) (fun _ _ _ h => h) (.inl ⟨by kernel_rfl, fun U hU => by obtain ⟨q0, q1, q2⟩ := Bk.c3 hU.1; have ql := Bk.lt hU.1; go_simp⟩) hS0 ?_
  simp only [Act.put, List.setIfInBounds_toArray, List.set_cons_zero, List.set_cons_succ]
  obtain ⟨qT_0, qT_1, qT_2, qT_3, qT_4, qT_5, qT_6, qT_7, qT_8, qT_9, qT_10, qT_11, qT_12, qT_13⟩ := HT4.out.c14t
  have lT := HT4.out.lt
  refine wpAnyH_all (rs := [9]) (by kernel_rfl) (by simp) ?_
  intro i hi
  simp only [List.mem_cons, List.not_mem_nil, or_false] at hi
  subst hi
  unfold wpOp
  go_simp
  left
  clear qT_0 qT_1 qT_2 qT_3 qT_4 qT_5 qT_6 qT_7 qT_8 qT_9 qT_10 qT_11 qT_12 qT_13 lT
  refine wpAnyH_all (rs := [10]) (by kernel_rfl) (by simp) ?_
  intro i hi
  simp only [List.mem_cons, List.not_mem_nil, or_false] at hi
  subst hi
  unfold wpOp
  go_simp
  left
  have hq := hS0.2.1
  have hlq := hS0.2.2
  refine wpAnyH_all (rs := [11]) (by kernel_rfl) (by simp) ?_
  intro i hi
  simp only [List.mem_cons, List.not_mem_nil, or_false] at hi
  subst hi
  unfold wpOp
  go_simp
  left
  clear hq hlq
  refine wpAnyH_all (rs := [13]) (by kernel_rfl) (by simp) ?_
  intro i hi
  simp only [List.mem_cons, List.not_mem_nil, or_false] at hi
  subst hi
  unfold wpOp
  go_simp
  left
  refine (follow_tp b ⟨id, tn, pg, pc, un, k0, k1, k2, k3, st, rn⟩ (lk, li, la) (kd, xi, xa) U0 B3 m3 c3 (pth P pg.toNat) W0.heap.size (Nat.le_trans HWB.out H1.out) HW0.out.size (fun w1 h => HPR.out.below (HW0.out.trans h)) HFo.out (by have := HGB.out; have := H1.out; omega) HT4.out H5.out H6.out).mono ?_
  unfold StP
  rintro e U1 ⟨rfl, hu, gg⟩
  dsimp only
  have hS1 := And.intro (hS0.1.grown gg (fun e => NE.out (Option.some.inj e))) (And.intro ((gr_cell gg (p := ⟨b3, o3 + pg.toNat, none⟩) hS0.2.2 N3.out).trans hS0.2.1) (Nat.lt_of_lt_of_le hS0.2.2 gg.size))
  refine ⟨hS1, ?_⟩
  have HRS := Lib.hid (HR.out.trans HST.out)
  have HKE := Lib.hid hS1.1
  have HGG := Lib.hid gg
  have HU := Lib.hid hu
  have HBU := Lib.hid (HBt.out.trans (Bt.of_gr (g := g) gg (.inl H1.out) (Nat.le_trans HBS.out HBt.out.size)))
  change Hid (oneT P (ofR l (kd, xi, xa).2.1 ++ [(kd, xi, xa)]) = stepA (pth P pg.toNat) ⟨id, tn, pg, pc, un, k0, k1, k2, k3, st, rn⟩ (lk, li, la) (kd, xi, xa)) at HRS
  clear hu gg hS0 HR HST HP HPR H5 H6 H2 H3 HT4 HPL
  generalize stepA (pth P pg.toNat) ⟨id, tn, pg, pc, un, k0, k1, k2, k3, st, rn⟩ (lk, li, la) (kd, xi, xa) = rr at HRS HU ⊢
  have hS0 := hS1
  clear hS1
  cases rr with
  | none =>
    refine take_at (i := 14) (d := 38) (v := .bool true) rfl rfl (by kernel_rfl) (by kernel_rfl) (by kernel_rfl) (fun _ _ _ h => h) (.inl ⟨by kernel_rfl, fun U hU => by go_simp⟩) hS0 ?_
    simp only [Act.put, List.setIfInBounds_toArray, List.set_cons_zero, List.set_cons_succ]
    refine take_at (i := 15) (d := 39) (v := .bool true) rfl rfl (by kernel_rfl) (by kernel_rfl) (by kernel_rfl) (fun _ _ _ h => h) (.inl ⟨by kernel_rfl, fun U hU => by go_simp⟩) hS0 ?_
    simp only [Act.put, List.setIfInBounds_toArray, List.set_cons_zero, List.set_cons_succ]
    refine wpAnyH_done (by kernel_rfl) ?_ _
    clear hS0
    go_wp2_with fail
    go_ret
    exact come_no HRS.out HBU.out
  | some T2 =>
    refine take_at (i := 14) (d := 38) (v := .bool false) rfl rfl (by kernel_rfl) (by kernel_rfl) (by kernel_rfl) (fun _ _ _ h => h) (.inl ⟨by kernel_rfl, fun U hU => by go_simp⟩) hS0 ?_
    simp only [Act.put, List.setIfInBounds_toArray, List.set_cons_zero, List.set_cons_succ]
    refine take_at (i := 15) (d := 39) (v := .bool false) rfl rfl (by kernel_rfl) (by kernel_rfl) (by kernel_rfl) (fun _ _ _ h => h) (.inl ⟨by kernel_rfl, fun U hU => by go_simp⟩) hS0 ?_
    simp only [Act.put, List.setIfInBounds_toArray, List.set_cons_zero, List.set_cons_succ]
    refine wpAnyH_done (by kernel_rfl) ?_ _
    have HT5 := Lib.hid (HU.out T2 rfl)
    clear hS0
    obtain ⟨y0, y1, y2, y3, y4, y5, y6, y7, y8, y9, y10⟩ := T2
    unfold tkc at HT5
    dsimp only at HT5
    obtain ⟨q0, q1, q2⟩ := Bk.c3 HKE.out
    have ql := Bk.lt HKE.out
    have lb := HT5.out.lt
    obtain ⟨qT_0, qT_1, qT_2, qT_3, qT_4, qT_5, qT_6, qT_7, qT_8, qT_9, qT_10, qT_11, qT_12, qT_13⟩ := HT5.out.c14t
    obtain ⟨ff0, ff1, ff2, ff3, ff4, ff5, ff6, ff7, ff8, ff9, ff10, ff11, ff12, ff13⟩ := HT5.out.f14t
    have x0 := Lib.hid (bk_setL HT5.out (.int .i64 kd) (.int .i64 xi) (.int .i64 xa))
    have xg := Lib.hid (gr_setL (g := b) (World.grownBy.refl U1 _) (.int .i64 kd) (.int .i64 xi) (.int .i64 xa))
    unfold setL at x0 xg
    go_wp2_with fail
    go_ret
    exact come_yes HRS.out (HBU.out.trans (Bt.of_gr xg.out (.inl H1.out) (Nat.le_trans HBS.out HBU.out.size))) (HM1.out.step HFN.out HGB.out HRS.out (gr_trans HGG.out xg.out) x0.out)

end Go.Proofs.YtfhlligcbpnkkaaDoor

/-
  Contracts of CheckAll and of Few of layer 4: the program's and the document's.
-/
namespace Go.Proofs.YtfhlligcbpnkkaaDoor
open Go.RowKit

/-- Of the first k programs each may be, and spawns what is there. -/
def okLK (l : List (List I3)) (k : Nat) : Prop := ∀ j, j < k → okP (pth l j) ∧ ∀ i, i < (pth l j).length → jO (pth l j) i = 2 → jA (pth l j) i < (l.length : Int)

/-- The relation of CheckAll's loop. -/
def AllRel (l : List (List I3)) (n : Nat) (w : World) (t : Value) (wr : World) : Prop := ∃ k : Nat, k ≤ n ∧ t = .int .i64 k ∧ okLK l k ∧ Below w.heap.size w wr

theorem errL_small {l : List (List I3)} (h : l.length < 1) : errL l = 1 := errL_no (fun h' => by have := h'.1; omega)
theorem errL_big {l : List (List I3)} (h : 16 < l.length) : errL l = 1 := errL_no (fun h' => by have := h'.2.1; omega)
theorem errL_bad {l : List (List I3)} {k : Nat} (hk : k < l.length) (h : ¬ okP (pth l k)) : errL l = 1 := errL_no (fun h' => h (h'.2.2 k hk).1)
theorem errL_wild {l : List (List I3)} {k i : Nat} (hk : k < l.length) (hi : i < (pth l k).length) (h : qWild l.length (pth l k) i = true) : errL l = 1 := errL_no (fun h' => by
  have h1 := of_decide_eq_true (show decide _ = true from h)
  have := (h'.2.2 k hk).2 i hi h1.1
  omega)
theorem okLK_next {l : List (List I3)} {k : Nat} (h : okLK l k) (h1 : okP (pth l k)) (h2 : ∀ i, i < (pth l k).length → qWild l.length (pth l k) i = false) : okLK l (k + 1) := by
  intro j hj
  rcases Nat.lt_or_ge j k with h' | h'
  · exact h j h'
  · obtain rfl : j = k := by omega
    refine ⟨h1, fun i hi h3 => ?_⟩
    have := of_decide_eq_false (show decide _ = false from h2 i hi)
    omega

set_option maxHeartbeats 1000000 in
theorem checkAll_any (A : Option Addr) (n c : Nat) (l : List (List I3)) (w : World) (hp : Prgs w A n l) :
    Calls Tryd.prog 23 #[.slice A n c] w (RetB (.int .i64 (errL l)) w) := by
  have HP := Lib.hid hp
  have HN := Lib.hid hp.1
  have hn := hp.2.1
  have HK := Lib.hid (Bk.new w 22 #[.slice A n c])
  have B0 := Lib.hid ((Below.refl w.heap.size w).alloc (Nat.le_refl _) (.cells #[.slice A n c] 22))
  clear hp
  by_cases h1 : n < 1
  · have HE := Lib.hid (errL_small (l := l) (by rw [HN.out]; exact h1))
    go_enter Tryd.func23, Tryd.ntmps23
    go_wp2
    go_ret
    rw [HE.out]
    exact RetB.of rfl B0.out
  · by_cases h2 : 16 < n
    · have HE := Lib.hid (errL_big (l := l) (by rw [HN.out]; exact h2))
      go_enter Tryd.func23, Tryd.ntmps23
      go_wp2
      go_ret
      rw [HE.out]
      exact RetB.of rfl B0.out
    · go_enter Tryd.func23, Tryd.ntmps23
      go_wp2
      go_loopw [16] (fun t wr => AllRel l n (w.alloc (.cells #[.slice A n c] 22)) t wr) (fun t _ => n - (intOf t).toNat)
      case atStart => exact ⟨0, Nat.zero_le _, rfl, fun j hj => absurd hj (by omega), Below.refl _ _⟩
      case round =>
        obtain ⟨k, hk, rfl, hq, hb⟩ := hrel
        have HQ := Lib.hid hq
        have HB := Lib.hid hb
        have HW := Lib.hid (below3 B0.out hb)
        clear hq hb
        by_cases hlt : k < n
        · have hkl : k < l.length := by rw [HN.out]; exact hlt
          obtain ⟨b, o, D, m, d, rfl, hbl, g0, hr⟩ := (HP.out.below HW.out).at_ hlt
          have HR := Lib.hid hr
          have HML := Lib.hid hr.1
          clear hr
          by_cases hx : okP (pth l k)
          · have HX := Lib.hid hx
            have HE := Lib.hid (errP_ok hx)
            clear hx
            go_wp2_with fail
            refine (check_any D m d _ _ HR.out).mono ?_
            rintro e w1 ⟨rfl, hb1⟩
            rw [HE.out]
            have HB1 := Lib.hid (below3 HB.out hb1)
            have HW1 := Lib.hid (below3 HW.out hb1)
            have HR1 := Lib.hid (HR.out.below hb1)
            clear hb1
            go_wp2_with fail
            refine (contains_wild w.heap.size (some ⟨b, o, none⟩) n c D m d _ _ HR1.out (HK.out.below HB1.out HK.out.lt)).mono ?_
            rintro e w2 ⟨r, rfl, hy, hn', hb2⟩
            have HB2 := Lib.hid (below3 HB1.out hb2)
            have HW2 := Lib.hid (below3 HW1.out hb2)
            have HY := Lib.hid hy
            have HN' := Lib.hid hn'
            clear hb2 hy hn'
            cases r with
            | true =>
              have HE : Hid (errL l = 1) := Lib.hid (by
                obtain ⟨i, hi, hq⟩ := HY.out rfl
                exact errL_wild hkl (by rw [HML.out]; exact hi) (by rw [HN.out]; exact hq))
              go_wp2
              go_ret
              rw [HE.out]
              exact RetB.of rfl HW2.out
            | false =>
              have HQ' := Lib.hid (okLK_next HQ.out HX.out (fun i hi => by rw [HN.out]; exact HN'.out rfl i (by rw [HML.out] at hi; exact hi)))
              go_wp2
              go_roundw
              case rel => exact ⟨k + 1, by omega, by go_num, HQ'.out, HB2.out⟩
              case measure => simp [intOf]; omega
          · have HE := Lib.hid (errP_no hx)
            have HE2 := Lib.hid (errL_bad hkl hx)
            clear hx
            go_wp2_with fail
            refine (check_any D m d _ _ HR.out).mono ?_
            rintro e w1 ⟨rfl, hb1⟩
            rw [HE.out]
            have HW1 := Lib.hid (below3 HW.out hb1)
            clear hb1
            go_wp2
            go_ret
            rw [HE2.out]
            exact RetB.of rfl HW1.out
        · have HE := Lib.hid (errL_ok (l := l) ⟨by rw [HN.out]; omega, by rw [HN.out]; omega, fun j hj => HQ.out j (by rw [HN.out] at hj; omega)⟩)
          go_wp2
          go_ret
          rw [HE.out]
          exact RetB.of rfl HW.out

/-- The relation of the inner loop of the document's CheckAll. -/
def WildRel (q : Nat → Bool) (n : Nat) (w : World) (t : Value) (wr : World) : Prop := ∃ k : Nat, k ≤ n ∧ t = .int .i64 k ∧ (∀ j, j < k → q j = false) ∧ Below w.heap.size w wr

set_option maxHeartbeats 1000000 in
theorem rcheckAll_any (A : Option Addr) (n c : Nat) (l : List (List I3)) (w : World) (hp : Prgs w A n l) :
    Calls Tryd.prog 26 #[.slice A n c] w (RetB (.int .i64 (errL l)) w) := by
  have HP := Lib.hid hp
  have HN := Lib.hid hp.1
  have hn := hp.2.1
  clear hp
  by_cases h1 : n < 1
  · have HE := Lib.hid (errL_small (l := l) (by rw [HN.out]; exact h1))
    go_enter Tryd.func26, Tryd.ntmps26
    go_wp2
    go_ret
    rw [HE.out]
    exact RetB.of rfl (Below.refl _ _)
  · by_cases h2 : 16 < n
    · have HE := Lib.hid (errL_big (l := l) (by rw [HN.out]; exact h2))
      go_enter Tryd.func26, Tryd.ntmps26
      go_wp2
      go_ret
      rw [HE.out]
      exact RetB.of rfl (Below.refl _ _)
    · go_enter Tryd.func26, Tryd.ntmps26
      go_wp2
      go_loopw [17] (fun t wr => AllRel l n w t wr) (fun t _ => n - (intOf t).toNat)
      case atStart => exact ⟨0, Nat.zero_le _, rfl, fun j hj => absurd hj (by omega), Below.refl _ _⟩
      case round =>
        obtain ⟨k, hk, rfl, hq, hb⟩ := hrel
        have HQ := Lib.hid hq
        have HW := Lib.hid hb
        clear hq hb
        by_cases hlt : k < n
        · have hkl : k < l.length := by rw [HN.out]; exact hlt
          obtain ⟨b, o, D, m, d, rfl, hbl, g0, hr⟩ := (HP.out.below HW.out).at_ hlt
          have HR := Lib.hid hr
          have HML := Lib.hid hr.1
          have hm := Nat.le_trans hr.2.1.1 hr.2.1.2
          clear hr
          by_cases hx : okP (pth l k)
          · have HX := Lib.hid hx
            have HE := Lib.hid (errP_ok hx)
            clear hx
            go_wp2_with fail
            refine (rcheck_any D m d _ _ HR.out).mono ?_
            rintro e w1 ⟨rfl, hb1⟩
            rw [HE.out]
            have HW1 := Lib.hid (below3 HW.out hb1)
            have HR1 := Lib.hid (HR.out.below hb1)
            clear hb1
            go_wp2
            go_loopw [26] (fun t wr => WildRel (qWild n (pth l k)) m w1 t wr) (fun t _ => m - (intOf t).toNat)
            case atStart => exact ⟨0, Nat.zero_le _, rfl, fun j hj => absurd hj (by omega), Below.refl _ _⟩
            case round =>
              obtain ⟨i, hi, rfl, hq2, hb2⟩ := hrel
              have HQ2 := Lib.hid hq2
              have HB2 := Lib.hid hb2
              have HW2 := Lib.hid (below3 HW1.out hb2)
              clear hq2 hb2
              by_cases hlt2 : i < m
              · obtain ⟨b2, o2, rfl, hbl2, f0, f1, f2⟩ := (HR1.out.below HB2.out).at_ hlt2
                have HB3 := fun X => Lib.hid (HB2.out.alloc HB2.out.size X)
                have HW3 := fun X => Lib.hid (HW2.out.alloc HW2.out.size X)
                by_cases hs : jO (pth l k) i = 2
                · have hs1 : (jO (pth l k) i == 2) = true := by simpa using hs
                  by_cases ha : (n : Int) ≤ jA (pth l k) i
                  · have HE : Hid (errL l = 1) := Lib.hid (errL_wild hkl (by rw [HML.out]; exact hlt2) (by rw [HN.out]; simp [qWild, wild, hs, ha]))
                    clear hs
                    go_wp2
                    go_ret
                    rw [HE.out]
                    exact RetB.of rfl (HW3 _).out
                  · have HQ3 : Hid (qWild n (pth l k) i = false) := Lib.hid (by simp [qWild, wild, ha])
                    clear hs
                    go_wp2
                    go_roundw
                    case rel => exact ⟨i + 1, by omega, by go_num, fun j hj => (by
                      rcases Nat.lt_or_ge j i with h | h
                      · exact HQ2.out j h
                      · obtain rfl : j = i := by omega
                        exact HQ3.out), (HB3 _).out⟩
                    case measure => simp [intOf]; omega
                · have hs1 : (jO (pth l k) i == 2) = false := by simpa using hs
                  have HQ3 : Hid (qWild n (pth l k) i = false) := Lib.hid (by simp [qWild, wild, hs])
                  clear hs
                  go_wp2
                  go_roundw
                  case rel => exact ⟨i + 1, by omega, by go_num, fun j hj => (by
                    rcases Nat.lt_or_ge j i with h | h
                    · exact HQ2.out j h
                    · obtain rfl : j = i := by omega
                      exact HQ3.out), (HB3 _).out⟩
                  case measure => simp [intOf]; omega
              · have HQ' := Lib.hid (okLK_next HQ.out HX.out (fun j hj => by rw [HN.out]; exact HQ2.out j (by rw [HML.out] at hj; omega)))
                go_wp2
                go_roundw
                case rel => exact ⟨k + 1, by omega, by go_num, HQ'.out, HW2.out⟩
                case measure => simp [intOf]; omega
          · have HE := Lib.hid (errP_no hx)
            have HE2 := Lib.hid (errL_bad hkl hx)
            clear hx
            go_wp2_with fail
            refine (rcheck_any D m d _ _ HR.out).mono ?_
            rintro e w1 ⟨rfl, hb1⟩
            rw [HE.out]
            have HW1 := Lib.hid (below3 HW.out hb1)
            clear hb1
            go_wp2
            go_ret
            rw [HE2.out]
            exact RetB.of rfl HW1.out
        · have HE := Lib.hid (errL_ok (l := l) ⟨by rw [HN.out]; omega, by rw [HN.out]; omega, fun j hj => HQ.out j (by rw [HN.out] at hj; omega)⟩)
          go_wp2
          go_ret
          rw [HE.out]
          exact RetB.of rfl HW.out

/-- The relation of Few's loop. -/
def FewRel (l : List (List I3)) (n : Nat) (t : Value) : Prop := ∃ k : Nat, k ≤ n ∧ t = .int .i64 k ∧ ∀ j, j < k → (pth l j).length ≤ 100

theorem few_any (A : Option Addr) (n c : Nat) (l : List (List I3)) (w : World) (hp : Prgs w A n l) :
    Calls Tryd.prog 10 #[.slice A n c] w fun e w' => e = .returned (.bool (fewB l)) ∧ w = w' := by
  have HP := Lib.hid hp
  have HN := Lib.hid hp.1
  have hn := hp.2.1
  clear hp
  go_enter Tryd.func10, Tryd.ntmps10
  go_wp2
  go_loop [7] (fun t => FewRel l n t) (fun t => n - (intOf t).toNat)
  case atStart => exact ⟨0, Nat.zero_le _, rfl, fun j hj => absurd hj (by omega)⟩
  case round =>
    obtain ⟨k, hk, rfl, hq⟩ := hrel
    have HQ := Lib.hid hq
    clear hq
    by_cases hlt : k < n
    · obtain ⟨b, o, D, m, d, rfl, hbl, g0, hr⟩ := HP.out.at_ hlt
      have HML := Lib.hid hr.1
      clear hr
      by_cases hm : 100 < m
      · have HF : Hid (false = fewB l) := Lib.hid (by
          symm
          refine decide_eq_false (fun h => ?_)
          have := h.2 k (by rw [HN.out]; exact hlt)
          rw [HML.out] at this
          omega)
        go_wp2
        go_ret
        exact ⟨ret_bool HF.out, rfl⟩
      · go_wp2
        go_round
        case rel => exact ⟨k + 1, by omega, by go_num, fun j hj => (by
          rcases Nat.lt_or_ge j k with h | h
          · exact HQ.out j h
          · obtain rfl : j = k := by omega
            rw [HML.out]; omega)⟩
        case measure => simp [intOf]; omega
    · have HF : Hid (decide ((n : Int) ≤ 100) = fewB l) := Lib.hid (by
        unfold fewB
        rw [decide_eq_decide]
        refine ⟨fun h => ⟨by rw [HN.out]; omega, fun j hj => HQ.out j (by rw [HN.out] at hj; omega)⟩, fun h => ?_⟩
        have := h.1
        rw [HN.out] at this
        omega)
      go_wp2
      go_ret
      exact ⟨ret_bool HF.out, rfl⟩

end Go.Proofs.YtfhlligcbpnkkaaDoor

/-
  Layer 18, the program: the search for the first event that may not come; Check.
-/
namespace Go.Proofs.YtfhlligcbpnkkaaDoor
open Go.RowKit

theorem come_any (P : List (List I3)) (l : List I3) (B g n : Nat) (f : Int → Option Nat) (F : Option Addr) (np cp : Nat) (x : I3) (w : World) (hF : Fol w) (hok : okL P) (hM : MapT P l B w g n f) (hg0 : g ≠ 0) (hgB : g < B) (hBs : B ≤ w.heap.size) (W0 : World) (hP : Prgs W0 F np P) (hW : Below W0.heap.size W0 w) (hWB : W0.heap.size ≤ B) (hWg : W0.heap.size ≤ g) (hx : FitI x) (hl : l.length < 100000) : Calls Tryd.prog 34 #[.map (some g), .slice F np cp, .agg #[.int .i64 x.1, .int .i64 x.2.1, .int .i64 x.2.2]] w (ComeP P l x B g w) := by
  by_cases h1 : x.1 = 1
  · exact come_born P l B g n f F np cp x w hF hok hM hg0 hgB hBs W0 hP hW hWB hWg hx hl h1
  · cases hf : f x.2.1 with
    | none => exact come_none P l B g n f F np cp x w hF hok hM hg0 hgB hBs W0 hP hW hWB hWg hx hl h1 hf
    | some b => exact come_there P l B g n f F np cp x b w hF hok hM hg0 hgB hBs W0 hP hW hWB hWg hx hl h1 hf

/-- What the closure answers: may the event not come? -/
def CloP (P : List (List I3)) (l : List I3) (x : I3) (B g : Nat) (w : World) (e : Ending) (w' : World) : Prop :=
  e = .returned (.bool (!(oneT P (ofR l x.2.1 ++ [x])).isSome)) ∧ Bt B g w w' ∧ ((oneT P (ofR l x.2.1 ++ [x])).isSome = true → ∃ n f, MapT P (l ++ [x]) B w' g n f)

set_option maxHeartbeats 1000000 in
theorem clo_tp (P : List (List I3)) (l : List I3) (B g n : Nat) (f : Int → Option Nat) (F : Option Addr) (np cp : Nat) (x : I3) (w : World) (hF : Fol w) (hok : okL P) (hM : MapT P l B w g n f) (hg0 : g ≠ 0) (hgB : g < B) (hBs : B ≤ w.heap.size) (W0 : World) (hP : Prgs W0 F np P) (hW : Below W0.heap.size W0 w) (hWB : W0.heap.size ≤ B) (hWg : W0.heap.size ≤ g) (hx : FitI x) (hl : l.length < 100000) (g1 g2 : Nat) (k1 : Bk w g1 52 #[.map (some g)]) (k2 : Bk w g2 22 #[.slice F np cp]) :
    Calls Tryd.prog 33 #[.agg #[.int .i64 x.1, .int .i64 x.2.1, .int .i64 x.2.2], .pointer (some ⟨g1, 0, none⟩), .pointer (some ⟨g2, 0, none⟩)] w (CloP P l x B g w) := by
  obtain ⟨kd, xi, xa⟩ := x
  have HX := Lib.hid hx
  have HM := Lib.hid hM
  have H1 := Lib.hid k1
  have H2 := Lib.hid k2
  have HF0 := Lib.hid hF
  have HBS := Lib.hid hBs
  have HW0 := Lib.hid hW
  dsimp only
  clear hx hM k1 k2 hF hW hBs
  obtain ⟨kb0, hb0⟩ := lies1 w #[.int .i64 kd, .int .i64 xi, .int .i64 xa] 41
  obtain ⟨V, hV⟩ : ∃ V, w.alloc (.cells #[.int .i64 kd, .int .i64 xi, .int .i64 xa] 41) = V := ⟨_, rfl⟩
  rw [hV] at hb0 kb0
  have HV := Lib.hid hV
  have BB := Lib.hid hb0
  have KE := Lib.hid kb0
  have HBE : Hid (w.heap.size ≤ w.heap.size) := Lib.hid (by omega)
  clear hV hb0 kb0
  go_enter Tryd.func33, Tryd.ntmps33
  go_upto_region 1 with fail
  rw [HV.out]
  clear HV
  have Q1 := (H1.out.below BB.out H1.out.lt).one
  have Q2 := (H2.out.below BB.out H2.out.lt).one
  have L1 := (H1.out.below BB.out H1.out.lt).lt
  have L2 := (H2.out.below BB.out H2.out.lt).lt
  obtain ⟨qE_0, qE_1, qE_2⟩ := KE.out.c3
  have lE := KE.out.lt
  go_wp2_with fail
  refine (come_any P l B g n f F np cp (kd, xi, xa) V (HF0.out.le BB.out) hok (HM.out.grown BB.out) hg0 hgB (Nat.le_trans HBS.out BB.out.size) W0 hP (HW0.out.trans (BB.out.mono HW0.out.size)) hWB hWg HX.out hl).mono ?_
  unfold ComeP
  dsimp only
  obtain ⟨bv, hbv⟩ : ∃ bv, (oneT P (ofR l xi ++ [(kd, xi, xa)])).isSome = bv := ⟨_, rfl⟩
  rw [hbv]
  have HBV := Lib.hid hbv
  clear hbv
  rintro e U ⟨rfl, hb, hm⟩
  clear qE_0 qE_1 qE_2 lE
  have HB := Lib.hid hb
  have HMM := Lib.hid hm
  clear hb hm Q1 Q2 L1 L2
  go_wp2_with fail
  go_ret
  refine ⟨?_, (Bt.of_big BB.out HBS.out).trans HB.out, fun q => HMM.out (HBV.out.symm.trans q)⟩
  show _ = Ending.returned (.bool (!(oneT P (ofR l xi ++ [(kd, xi, xa)])).isSome))
  rw [HBV.out]
  rfl

/-- The place of the first event that may not come: none, if all may. -/
noncomputable def idxT (P : List (List I3)) (l : List I3) : Int := if badT P l = l.length then -1 else (badT P l : Int)
def IdxP (P : List (List I3)) (l : List I3) (B g : Nat) (w : World) (e : Ending) (w' : World) : Prop :=
  e = .returned (.int .i64 (idxT P l)) ∧ Bt B g w w' ∧ (badT P l = l.length → ∃ n f, MapT P l B w' g n f)
theorem idx_at {P : List (List I3)} {l : List I3} {B g k : Nat} {w w' : World} (hk : k < l.length) (h : badT P l = k) (hb : Bt B g w w') : IdxP P l B g w (.returned (.int .i64 (k : Int))) w' :=
  ⟨by unfold idxT; rw [h, if_neg (by omega)], hb, fun q => by omega⟩
theorem idx_all {P : List (List I3)} {l : List I3} {B g : Nat} {w w' : World} (h : badT P l = l.length) (hb : Bt B g w w') (hm : ∃ n f, MapT P l B w' g n f) : IdxP P l B g w (.returned (.int .i64 (-1))) w' :=
  ⟨by unfold idxT; rw [if_pos h], hb, fun _ => hm⟩
theorem may_next {P : List (List I3)} {l : List I3} {k : Nat} (h : k < l.length) : mayT P l k = (oneT P (ofR (l.take k) (ith l k).2.1 ++ [ith l k])).isSome := by
  unfold mayT
  rw [ofR_next h, if_pos rfl]

set_option maxHeartbeats 4000000 in
theorem index_tp (P : List (List I3)) (l : List I3) (B g : Nat) (F : Option Addr) (np cp : Nat) (A : Option Addr) (n c : Nat) (w : World) (hF : Fol w) (hok : okL P) (hM : ∃ n f, MapT P [] B w g n f) (hg0 : g ≠ 0) (hgB : g < B) (hBs : B ≤ w.heap.size) (W0 : World) (hP : Prgs W0 F np P) (hl : Prog W0 A n c l) (hW : Below W0.heap.size W0 w) (hWB : W0.heap.size ≤ B) (hWg : W0.heap.size ≤ g) (hn : n < 100000) (g1 g2 : Nat) (k1 : Bk w g1 52 #[.map (some g)]) (k2 : Bk w g2 22 #[.slice F np cp]) (l1 : g1 < B) (l2 : g2 < B) (n1 : g1 ≠ g) (n2 : g2 ≠ g) :
    Calls Tryd.prog 32 #[.slice A n c, .func (.func 33) #[] #[.pointer (some ⟨g1, 0, none⟩), .pointer (some ⟨g2, 0, none⟩)]] w (IdxP P l B g w) := by
  have HF0 := Lib.hid hF
  have HM0 := Lib.hid hM
  have HBS := Lib.hid hBs
  have HW0 := Lib.hid hW
  have HL := Lib.hid hl
  have LX := Lib.hid hl.1
  have hnc := hl.2.1
  have H1 := Lib.hid k1
  have H2 := Lib.hid k2
  have HG0 := Lib.hid hg0
  have HGB := Lib.hid hgB
  have HWB := Lib.hid hWB
  have HWG := Lib.hid hWg
  have HN := Lib.hid hn
  have HL1 := Lib.hid l1
  have HL2 := Lib.hid l2
  have HN1 := Lib.hid n1
  have HN2 := Lib.hid n2
  clear hF hM hBs hW hl k1 k2 hg0 hgB hWB hWg hn l1 l2 n1 n2
  go_enter Tryd.func32, Tryd.ntmps32
  go_wp2
  go_loopw [8] (fun t wr => ∃ k : Nat, k ≤ n ∧ t = .int .i64 k ∧ Hid (∀ j, j < k → mayT P l j = true) ∧ Hid (Bt B g w wr) ∧ Hid (∃ m f, MapT P (l.take k) B wr g m f)) (fun t _ => n - (intOf t).toNat)
  case atStart => exact ⟨0, Nat.zero_le _, rfl, Lib.hid (fun j hj => absurd hj (Nat.not_lt_zero _)), Lib.hid (Bt.refl _ _ _), HM0⟩
  case round =>
    rename World => wr
    obtain ⟨k, hk, rfl, OK, BT, HM⟩ := hrel
    by_cases hkn : k < n
    · have HWR := Lib.hid (HW0.out.trans (BT.out.below HWB.out HWG.out))
      obtain ⟨b, o, rfl, hb, c0, c1, c2⟩ := (HL.out.below HWR.out).at_ hkn
      have hkl : k < l.length := by rw [LX.out]; exact hkn
      have HMY := Lib.hid (may_next (P := P) hkl)
      have hft := HL.out.fit hkn
      obtain ⟨⟨kd, xi, xa⟩, hz⟩ : ∃ e, ith l k = e := ⟨_, rfl⟩
      have hnx : l.take (k + 1) = l.take k ++ [(kd, xi, xa)] := by rw [ith_takeT hkl, hz]
      rw [show jO l k = kd by unfold jO; rw [hz]] at c0 hft
      rw [show jA l k = xi by unfold jA; rw [hz]] at c1 hft
      rw [show jB l k = xa by unfold jB; rw [hz]] at c2 hft
      rw [hz] at HMY
      have HFT : Hid (FitI (kd, xi, xa)) := Lib.hid hft
      have HNX := Lib.hid hnx
      clear hft hnx hz
      obtain ⟨m, f, hm⟩ := HM.out
      have HMT := Lib.hid hm
      clear hm
      have hlt : (l.take k).length < 100000 := by rw [List.length_take]; have := HN.out; omega
      have HLT := Lib.hid hlt
      have HKL := Lib.hid hkl
      clear hlt hkl
      go_wp2_with fail
      refine (clo_tp P (l.take k) B g m f F np cp (kd, xi, xa) _ (HF0.out.bt BT.out HG0.out (by have := HGB.out; omega)) hok HMT.out HG0.out HGB.out (Nat.le_trans HBS.out BT.out.size) W0 hP HWR.out HWB.out HWG.out HFT.out HLT.out g1 g2 (H1.out.bt BT.out HL1.out HN1.out) (H2.out.bt BT.out HL2.out HN2.out)).mono ?_
      unfold CloP
      rw [← HMY.out]
      try dsimp only
      rintro e U ⟨rfl, hb, hm⟩
      have HB := Lib.hid (BT.out.trans hb)
      have HMM := Lib.hid hm
      clear hb hm c0 c1 c2
      cases hv : mayT P l k
      · have HBAD : Hid (badT P l = k) := Lib.hid (badT_of (Nat.le_of_lt HKL.out) OK.out (fun _ => hv))
        clear hv
        simp only [Bool.not_false]
        go_wp2_with fail
        go_ret
        exact idx_at HKL.out HBAD.out HB.out
      · have HOK2 : Hid (∀ j, j < k + 1 → mayT P l j = true) := Lib.hid (fun j hj => by rcases Nat.lt_or_ge j k with h | h; exact OK.out j h; obtain rfl : j = k := (by omega); exact hv)
        have HM2 : Hid (∃ m f, MapT P (l.take (k + 1)) B U g m f) := Lib.hid (by rw [HNX.out]; exact HMM.out hv)
        clear hv
        simp only [Bool.not_true]
        go_wp2_with fail
        go_roundw
        case rel => exact ⟨k + 1, by omega, by go_num, HOK2, HB, HM2⟩
        case measure => simp [intOf]; omega
    · obtain rfl : k = n := by omega
      have HALL : Hid (badT P l = l.length) := Lib.hid (badT_of (Nat.le_refl _) (fun j hj => OK.out j (by rw [← LX.out]; exact hj)) (fun q => absurd q (Nat.lt_irrefl _)))
      have HM2 : Hid (∃ m f, MapT P l B wr g m f) := Lib.hid (by have := HM.out; rwa [List.take_of_length_le (by rw [LX.out]; exact Nat.le_refl _)] at this)
      go_wp2_with fail
      go_ret
      exact idx_all HALL.out BT.out HM2.out

end Go.Proofs.YtfhlligcbpnkkaaDoor

/-
  Layer 18: a slice of tasks (eleven cells each) that reads as a list; a row of them of the call's own; append. Over no program.
-/
namespace Go.Proofs.YtfhlligcbpnkkaaDoor
open Go.RowKit

def kth (l : List Tk) (j : Nat) : Tk := l.getD j zT
theorem kth_get {l : List Tk} {j : Nat} (h : j < l.length) : kth l j = l[j] := by simp [kth, List.getD, h]
def cellsTk (l : List Tk) : List Value := l.flatMap fun t => (tc t).toList
theorem tc_len (t : Tk) : (tc t).toList.length = 11 := rfl
theorem cellsTk_len (l : List Tk) : (cellsTk l).length = l.length * 11 := by
  induction l with
  | nil => rfl
  | cons t l ih => simp only [cellsTk, List.flatMap_cons, List.length_append, List.length_cons] at ih ⊢; rw [ih, tc_len]; omega
theorem cellsTk_app (l m : List Tk) : cellsTk (l ++ m) = cellsTk l ++ cellsTk m := by simp [cellsTk]
theorem cellsTk_one (l : List Tk) : ∀ u ∈ cellsTk l, u.oneCell' = true := by
  intro u hu
  obtain ⟨t, _, hx⟩ := List.mem_flatMap.1 hu
  simp only [tc, List.mem_cons, List.not_mem_nil, or_false] at hx
  rcases hx with rfl | rfl | rfl | rfl | rfl | rfl | rfl | rfl | rfl | rfl | rfl <;> rfl
theorem cellsTk_at : ∀ (l : List Tk) {j i : Nat}, j < l.length → i < 11 → (cellsTk l)[j * 11 + i]? = (tc (kth l j)).toList[i]?
  | [], j, i, hj, _ => by simp at hj
  | t :: l, 0, i, _, hi => by
    simp only [cellsTk, List.flatMap_cons]
    rw [Nat.zero_mul, Nat.zero_add, List.getElem?_append_left (by rw [tc_len]; exact hi)]
    rfl
  | t :: l, j + 1, i, hj, hi => by
    have ih := cellsTk_at l (j := j) (i := i) (by simpa using hj) hi
    simp only [cellsTk, List.flatMap_cons] at ih ⊢
    rw [List.getElem?_append_right (by rw [tc_len]; omega), tc_len, show (j + 1) * 11 + i - 11 = j * 11 + i by omega, ih]
    rfl

/-- The slice whose cells begin at A, of n tasks (with room for c), reads as the list l. -/
def Tks (w : World) (A : Option Addr) (n c : Nat) (l : List Tk) : Prop :=
  l.length = n ∧ (n ≤ c ∧ c ≤ 9223372036854775807) ∧
    (0 < n → ∃ b o, A = some ⟨b, o, none⟩ ∧ b < w.heap.size ∧ ∀ j i, j < n → i < 11 → w.cell? ⟨b, o + j * 11 + i, none⟩ = (tc (kth l j)).toList[i]?)
theorem Tks.below {w w' : World} {A : Option Addr} {n c : Nat} {l : List Tk} (h : Tks w A n c l) (hb : Below w.heap.size w w') : Tks w' A n c l :=
  ⟨h.1, h.2.1, fun hn => by
    obtain ⟨b, o, e, hlt, hc⟩ := h.2.2 hn
    exact ⟨b, o, e, Nat.lt_of_lt_of_le hlt hb.size, fun j i hj hi => (hb.cell (p := ⟨b, _, none⟩) hlt).trans (hc j i hj hi)⟩⟩
theorem Tks.nil_ (w : World) (A : Option Addr) {c : Nat} (hc : c ≤ 9223372036854775807) : Tks w A 0 c [] := ⟨rfl, by omega, fun h => by omega⟩
/-- One round's cells. -/
theorem Tks.at_ {w : World} {A : Option Addr} {n c : Nat} {l : List Tk} (h : Tks w A n c l) {j : Nat} (hj : j < n) : ∃ b o, A = some ⟨b, o, none⟩ ∧ b < w.heap.size ∧ ∀ i, i < 11 → w.cell? ⟨b, o + j * 11 + i, none⟩ = (tc (kth l j)).toList[i]? := by
  obtain ⟨b, o, e, hlt, hc⟩ := h.2.2 (by omega)
  exact ⟨b, o, e, hlt, fun i hi => hc j i hj hi⟩
theorem Tks.src {w : World} {A : Option Addr} {n c : Nat} {l : List Tk} (h : Tks w A n c l) {a : Addr} (e : A = some a) : ∀ j u, (cellsTk l)[j]? = some u → w.cell? (a.add j) = some u := by
  intro j u hu
  have hj : j < l.length * 11 := by rw [← cellsTk_len]; exact (List.getElem?_eq_some_iff.1 hu).1
  obtain ⟨b, o, e', _, hc⟩ := h.2.2 (by have := h.1; omega)
  rw [e'] at e
  injection e with e
  subst e
  rw [Addr.add_lit]
  have h1 := hc (j / 11) (j % 11) (by have := h.1; omega) (by omega)
  have h2 := cellsTk_at l (j := j / 11) (i := j % 11) (by omega) (by omega)
  rw [show j / 11 * 11 + j % 11 = j by omega] at h2
  rw [show o + j = o + j / 11 * 11 + j % 11 by omega, h1, ← h2, hu]

/-- A row of tasks that the call has made itself. -/
def OwnTk (E : TypeId) (w : World) (base : Nat) (A : Option Addr) (c : Nat) (l : List Tk) : Prop :=
  l.length * 88 ≤ 140737488351232 ∧ w.ownsRow base E 11 (.slice A l.length c) l.length (cellsTk l)
section
variable {E : TypeId} {w w' : World} {base : Nat} {A : Option Addr} {c : Nat} {l : List Tk}
theorem OwnTk.tks (h : OwnTk E w base A c l) : Tks w A l.length c l := by
  obtain ⟨hl, hown⟩ := h
  refine ⟨rfl, ?_, fun hn => ?_⟩
  · rcases hown.2 with ⟨h1, h2⟩ | ⟨g, cap, cur, e, hb, hh, hc, hm, _⟩
    · injection h1 with _ _ h1
      omega
    · injection e with e1 e2 e3
      subst e3
      unfold maxLen at hm
      omega
  obtain ⟨g, cap, hv, _, hlt⟩ := hown.form hn
  injection hv with hA _ _
  subst hA
  refine ⟨g, 0, rfl, hlt, fun j i hj hi => ?_⟩
  have hc := cellsTk_at l hj hi
  have hs : ∃ u, (tc (kth l j)).toList[i]? = some u := ⟨_, List.getElem?_eq_getElem (by rw [tc_len]; exact hi)⟩
  obtain ⟨u, hu⟩ := hs
  rw [hu] at hc ⊢
  have := hown.cells (g := g) rfl _ _ hc
  rw [Addr.add_lit, ← Nat.add_assoc] at this
  exact this
theorem OwnTk.below (h : OwnTk E w base A c l) (hb : Below w.heap.size w w') : OwnTk E w' base A c l :=
  ⟨h.1, h.2.kept (row := none) ⟨hb.os, hb.tape, hb.output, hb.size, fun k hk _ => hb.block k hk⟩ (by cases (Value.slice A l.length c).ownBlock <;> simp)⟩
theorem OwnTk.nil_ (E : TypeId) (w : World) (base : Nat) : OwnTk E w base none 0 [] := ⟨by simp, World.ownsRow_nil w base E 11⟩
theorem OwnTk.block (h : OwnTk E w base A c l) {n d : Nat} : ∀ k, (Value.slice A n d).ownBlock = some k → base ≤ k := by
  intro k hk
  refine (h.2.lt k ?_).1
  cases A with
  | none => simp [Value.ownBlock] at hk
  | some ad => simpa [Value.ownBlock] using hk
end
theorem run_append_tks {P : Program} (w : World) (t ty E : TypeId) (z : Value) (hzs : z.cells.size = 11) (ht : P.underlying t = some (.slice E)) (hi : (P.info? E).map (fun i => (i.zero, i.size, i.bytes)) = some (some z, 11, 88))
    (base : Nat) (A : Option Addr) (c : Nat) (xs : List Tk) (hown : OwnTk E w base A c xs) (B : Option Addr) (m d : Nat) (ys : List Tk) (hy : Tks w B m d ys)
    (hb : (xs.length + m) * 88 ≤ 140737488351232) (hbase : base ≤ w.heap.size) :
    ∃ A' c' w', (Builtin.append_ #[t, t] ty #[.slice A xs.length c, .slice B m d]).run P w = .ok (.slice A' (xs ++ ys).length c') w' ∧ OwnTk E w' base A' c' (xs ++ ys) ∧ w.grownBy w' (Value.slice A xs.length c).ownBlock := by
  obtain ⟨i, hi, hz0, hz1, hz2⟩ := info_parts hi
  obtain ⟨hl, hrow⟩ := hown
  obtain ⟨ly, by_, _⟩ := id hy
  cases B with
  | none =>
    have hm : m = 0 := by
      rcases Nat.eq_zero_or_pos m with h | h
      · exact h
      · obtain ⟨b, o, e, _⟩ := hy.2.2 h
        cases e
    subst hm
    obtain rfl : ys = [] := List.eq_nil_of_length_eq_zero ly
    refine ⟨A, c, w, ?_, ?_, World.grownBy.refl _ _⟩
    · simpa using run_append_none w base t ty E i 11 ht hi _ _ _ hrow d
    · rw [List.append_nil]; exact ⟨hl, hrow⟩
  | some ad =>
    obtain ⟨v', w', hr, h2, h3, _⟩ := run_append_own_at (P := P) w base t ty E i z 11 88 ht hi hz0 hz1 hz2 hzs (by decide) _ _ _ hrow ad m d (cellsTk ys) (by rw [cellsTk_len, ly]) (hy.src rfl) (cellsTk_one ys)
      (by unfold maxLen; omega) (by omega) hbase
    have e : ∃ A' c', v' = .slice A' (xs ++ ys).length c' := by
      rcases h2.2 with ⟨rfl, h0⟩ | ⟨g, cap, cur, rfl, _⟩
      · exact ⟨none, 0, by rw [List.length_append, ly, h0]⟩
      · exact ⟨_, cap, by rw [List.length_append, ly]⟩
    obtain ⟨A', c', rfl⟩ := e
    refine ⟨A', c', w', hr, ⟨by rw [List.length_append]; omega, ?_⟩, h3⟩
    rw [cellsTk_app]
    simpa [ly] using h2
/-- append, at the operation: onto a row of tasks of the call's own. -/
theorem wpList_append_tks {P : Program} (w : World) {ops : Array Oper} {rest : List Oper} {o : Oper} {a : Act} {Q : Exit → Act → World → Prop} (hgd : o.guard = none) (s x : Operand) (t : TypeId)
    (ho : o.op = .call { callee := .builtin .append, args := #[s, x], argTypes := #[t, t] })
    (E : TypeId) (z : Value) (hzs : z.cells.size = 11) (ht : P.underlying t = some (.slice E)) (hi : (P.info? E).map (fun i => (i.zero, i.size, i.bytes)) = some (some z, 11, 88))
    (base : Nat) (A : Option Addr) (c : Nat) (xs : List Tk) (n : Nat) (hn : n = xs.length) (hs : a.eval s = .slice A n c) (hown : OwnTk E w base A c xs) (B : Option Addr) (m d : Nat) (ys : List Tk) (hx : a.eval x = .slice B m d) (hy : Tks w B m d ys)
    (hb : (xs.length + m) * 88 ≤ 140737488351232) (hbase : base ≤ w.heap.size)
    (h : ∀ A' c' w', OwnTk E w' base A' c' (xs ++ ys) → w.grownBy w' (Value.slice A n c).ownBlock → wpList P ops Q rest (a.put o.dst (.slice A' (xs ++ ys).length c')) w') :
    wpList P ops Q (o :: rest) a w := by
  subst hn
  refine wpList_plain hgd fun K hK => ?_
  obtain ⟨A', c', w', hr, h2, h3⟩ := run_append_tks (P := P) w t o.type E z hzs ht hi base A c xs hown B m d ys hy hb hbase
  unfold Oper.wp execOp
  simp only [ho, resolve, invoke, builtin, Sem.run_bind, Sem.run_pure, Result.andThen_ok, List.map_toArray, List.map_cons, List.map_nil, hs, hx, hr]
  exact hK _ _ (h A' c' w' h2 h3)
theorem tks1 (w : World) (E : TypeId) (t : Tk) : Tks (w.alloc (.cells (tc t) E)) (some ⟨w.heap.size, 0, none⟩) 1 1 [t] := by
  have hb := Bk.new w E (tc t)
  refine ⟨rfl, by omega, fun _ => ⟨w.heap.size, 0, rfl, hb.lt, fun j i hj hi => ?_⟩⟩
  obtain rfl : j = 0 := by omega
  rw [Nat.zero_mul, Nat.add_zero, Nat.zero_add, hb.cell i]
  show _ = (tc t).toList[i]?
  simp

end Go.Proofs.YtfhlligcbpnkkaaDoor

/-
  Layer 8, the program: a timer more.
-/
import Derived.Test.YtjamoafihmcmeaaHe
import Derived.Test.YtjamoafihmcmeaaIB
namespace Go.Proofs.Ytjamoafihmcmeaa
open Go.RowKit

/-- An error's number, and a list, that fit a word. -/
def RetE (R : Int → List Tm → Prop) (w : World) (e : Ending) (w' : World) : Prop :=
  ∃ A c a z, e = .returned (.tuple #[.slice A a.length c, .int .i64 z]) ∧ R z a ∧ OwnT 24 w' w.heap.size A c a ∧ Below w.heap.size w w'
theorem RetE.none_ {R : Int → List Tm → Prop} {w : World} {e : Ending} {w' : World} (z : Int) (he : e = .returned (.tuple #[.slice none 0 0, .int .i64 z])) (hR : R z []) (hb : Below w.heap.size w w') : RetE R w e w' :=
  ⟨none, 0, [], z, he, hR, OwnT.nil_ _ _ _, hb⟩
theorem AddSpec.err {l : List Tm} {t : Tm} {z : Int} (h : (addR l t).1 = z) (hz : z ≠ 0) : AddSpec l t z [] := ⟨h.symm, fun _ => rfl, fun q => absurd q hz⟩

set_option maxHeartbeats 4000000 in
theorem padd_any (A : Option Addr) (n c : Nat) (l : List Tm) (t1 t2 : Int) (w : World) (hx : Tms w A n c l) (f1 : Fit t1) (f2 : Fit t2) :
    Calls Try.prog 11 #[.slice A n c, .agg #[.int .i64 t1, .int .i64 t2]] w (RetE (AddSpec l (t1, t2)) w) := by
  have HX := Lib.hid hx
  have LX := Lib.hid hx.1
  have F1 := Lib.hid f1
  have F2 := Lib.hid f2
  have k0 := Bk.new w 24 #[.int .i64 t1, .int .i64 t2]
  have b0 := (Below.refl w.heap.size w).alloc (Nat.le_refl _) (.cells #[.int .i64 t1, .int .i64 t2] 24)
  obtain ⟨gt, hgt⟩ : ∃ g, w.heap.size = g := ⟨_, rfl⟩
  obtain ⟨W, hW⟩ : ∃ W, w.alloc (.cells #[.int .i64 t1, .int .i64 t2] 24) = W := ⟨_, rfl⟩
  rw [hW] at k0 b0
  rw [hgt] at k0
  have HW := Lib.hid hW
  have HGT := Lib.hid hgt
  have K0 := Lib.hid k0
  have B0 := Lib.hid b0
  have HXW := Lib.hid (hx.below b0)
  obtain ⟨z, hz⟩ : ∃ z, (addR l (t1, t2)).1 = z := ⟨_, rfl⟩
  have HZ := Lib.hid hz
  clear hx f1 f2 k0 b0 hW hgt hz
  go_enter Try.func11, Try.ntmps11
  go_upto_region 1 with fail
  rw [HW.out]
  try rw [HGT.out]
  clear HW
  go_wp2_with fail
  refine (pcheck_any A n c l _ HXW.out).mono ?_
  rintro e w1 ⟨rfl, b1⟩
  have K1 := Lib.hid (K0.out.below b1 K0.out.lt)
  have B1 := Lib.hid (below3 B0.out b1)
  clear b1
  by_cases hok : heapOk l
  · rw [if_pos hok]
    have c0 : _ = some (Value.int .i64 t1) := K1.out.cell 0
    have c1 : _ = some (Value.int .i64 t2) := K1.out.cell 1
    have lt1 := K1.out.lt
    have HOK := Lib.hid hok
    clear hok
    go_wp2_with fail
    refine (pmay_any t1 t2 _).mono ?_
    rintro e w2 ⟨rfl, b2⟩
    have K2 := Lib.hid (K1.out.below b2 K1.out.lt)
    have B2 := Lib.hid (below3 B1.out b2)
    clear b2 c0 c1 lt1 K1 B1
    by_cases hm : mayT (t1, t2)
    · rw [decide_eq_true hm]
      have HMAY := Lib.hid hm
      have c1 : _ = some (Value.int .i64 t2) := K2.out.cell 1
      have lt1 := K2.out.lt
      clear hm
      go_wp2_with fail
      refine (of_any t2 _).mono ?_
      rintro e w3 ⟨rfl, hw3⟩
      have b3 := (Below.refl w2.heap.size w2).alloc (Nat.le_refl _) (.cells #[.int .i64 t2] 2)
      have k3 := Bk.new w2 2 #[.int .i64 t2]
      rw [← hw3] at b3 k3
      have K3 := Lib.hid (K2.out.below b3 K2.out.lt)
      have B3 := Lib.hid (below3 B2.out b3)
      have HC := Lib.hid (has_any A n c l t2 w2.heap.size w3 (HX.out.below B3.out) k3)
      clear b3 k3 hw3 c1 lt1 K2
      go_wp2_with fail
      refine HC.out.mono ?_
      rintro e w4 ⟨rfl, b4⟩
      have K4 := Lib.hid (K3.out.below b4 K3.out.lt)
      have B4 := Lib.hid (below3 B3.out b4)
      clear b4 HC K3 B3
      by_cases hid : hasId l t2
      · rw [decide_eq_true hid]
        have HE := Lib.hid (show z = 6 by rw [← HZ.out, addR, if_pos ⟨HOK.out, HMAY.out⟩, if_pos hid])
        clear hid
        go_wp2_with fail
        exact bodyPost_ret (v := .tuple #[.slice none 0 0, .int .i64 6]) (by simp [results, Try.results11, go_sem]) rfl (RetE.none_ 6 rfl (AddSpec.err (HZ.out.trans HE.out) (by omega)) B4.out)
      · rw [decide_eq_false hid]
        have HNI := Lib.hid hid
        clear hid
        by_cases h256 : n = 256
        · have HE := Lib.hid (show z = 7 by rw [← HZ.out, addR, if_pos ⟨HOK.out, HMAY.out⟩, if_neg HNI.out, if_pos (by rw [LX.out]; exact h256)])
          have t0 : ((n : Int) == 256) = true := by simp; omega
          clear h256
          go_wp2_with fail
          exact bodyPost_ret (v := .tuple #[.slice none 0 0, .int .i64 7]) (by simp [results, Try.results11, go_sem]) rfl (RetE.none_ 7 rfl (AddSpec.err (HZ.out.trans HE.out) (by omega)) B4.out)
        · have HE := Lib.hid (show z = 0 by rw [← HZ.out, addR, if_pos ⟨HOK.out, HMAY.out⟩, if_neg HNI.out, if_neg (by rw [LX.out]; exact h256)])
          have HN256 := Lib.hid (show l.length ≠ 256 by rw [LX.out]; exact h256)
          have HZ := Lib.hid (HZ.out.trans HE.out)
          have hn : n ≤ 999 := by have := HOK.out.1; have := LX.out; omega
          have t0 : ((n : Int) == 256) = false := by simp; omega
          clear h256
          go_wp2_with fail
          refine wp_region_held (S := fun U => Below w4.heap.size w4 U) (by kernel_rfl) ?_
          have hS0 : Below w4.heap.size w4 w4.drew := (Below.refl _ _).drew
          change wpAnyH _ _ _ _ _ _ _ _ (World.drew w4)
          generalize w4.drew = U0 at hS0 ⊢
          refine take_at (i := 0) (d := 26) (v := .slice A n c) rfl rfl (by kernel_rfl) (by kernel_rfl) (by kernel_rfl) (fun _ _ _ h => h) (.inl ⟨by kernel_rfl, fun U hU => by go_simp⟩) hS0 ?_
          simp only [Act.put, List.setIfInBounds_toArray, List.set_cons_zero, List.set_cons_succ]
          refine take_at (i := 2) (d := 28) (v := .agg #[.int .i64 t1, .int .i64 t2]) rfl rfl (by kernel_rfl) (by kernel_rfl) (by kernel_rfl) (fun _ _ _ h => h) (.inl ⟨by kernel_rfl, fun U hU => by have q0 : _ = some (Value.int .i64 t1) := (K4.out.below hU K4.out.lt).cell 0; have q1 : _ = some (Value.int .i64 t2) := (K4.out.below hU K4.out.lt).cell 1; go_simp⟩) hS0 ?_
          simp only [Act.put, List.setIfInBounds_toArray, List.set_cons_zero, List.set_cons_succ]
          have BU0 := Lib.hid (below3 B4.out hS0)
          have HXU := Lib.hid (HX.out.below BU0.out)
          refine wpAnyH_all (rs := [1, 3]) (by kernel_rfl) (by simp) ?_
          intro i hi
          simp only [List.mem_cons, List.not_mem_nil, or_false] at hi
          rcases hi with rfl | rfl
          · unfold wpOp
            go_simp
            left
            refine (clone_any A n c l _ HXU.out (by omega)).mono ?_
            rintro e U1 ⟨A1, c1, rfl, o1, b1⟩
            have hS1 := below3 hS0 b1
            have BU1 := Lib.hid (below3 BU0.out b1)
            have O1 := Lib.hid (o1.base hS0.size)
            refine ⟨hS1, ?_⟩
            clear b1 o1
            rw [LX.out]
            refine wpAnyH_all (rs := [3]) (by kernel_rfl) (by simp) ?_
            intro i hi
            simp only [List.mem_cons, List.not_mem_nil, or_false] at hi
            subst hi
            unfold wpOp
            go_simp
            left
            have ba := (Below.refl U1.heap.size U1).alloc (Nat.le_refl _) (.cells #[.int .i64 t1, .int .i64 t2] 24)
            have hS2 := below3 hS1 ba
            have BU2 := Lib.hid (below3 BU1.out ba)
            have O1 := Lib.hid (O1.out.below ba)
            have T1 := Lib.hid (tms1 U1 24 F1.out F2.out)
            clear ba
            obtain ⟨gb, hgb⟩ : ∃ g, U1.heap.size = g := ⟨_, rfl⟩
            obtain ⟨U2, hU2⟩ : ∃ U, U1.alloc (.cells #[.int .i64 t1, .int .i64 t2] 24) = U := ⟨_, rfl⟩
            rw [hU2] at hS2 BU2 O1 T1 ⊢
            rw [hgb] at T1 ⊢
            clear hU2 hgb
            refine ⟨hS2, ?_⟩
            have hln := LX.out
            obtain ⟨A3, c3, U3, hr3, o3, g3⟩ := run_append_tms (P := Try.prog) U2 22 22 24 _ rfl Try.underlying22 infoT w4.heap.size A1 c1 l O1.out (some ⟨gb, 0, none⟩) 1 1 [(t1, t2)] T1.out (by omega) hS2.size
            have hS3 : Below w4.heap.size w4 U3 := hS2.grown g3 hS2.size (fun k hk => O1.out.block k hk)
            have hU3 := below3 B4.out hS3
            obtain ⟨g, hA3, hg3⟩ : ∃ g, A3 = some ⟨g, 0, none⟩ ∧ w4.heap.size ≤ g := by
              obtain ⟨g, cap, e1, h1, _⟩ := o3.2.2.form (by simp)
              injection e1 with e1
              exact ⟨g, e1, h1⟩
            subst hA3
            have O3 := Lib.hid o3
            have BU3 := Lib.hid hU3
            have hl3 : (l ++ [(t1, t2)]).length = n + 1 := by simp [LX.out]
            rw [hl3] at hr3
            have HRI := Lib.hid (rise_any w4.heap.size g c3 (l ++ [(t1, t2)]) l.length U3 o3 (by simp) (by simp; omega))
            rw [hl3] at HRI
            rw [show ((l.length : Nat) : Int) = (n : Int) by rw [LX.out]] at HRI
            have HR3 := Lib.hid hr3
            clear o3 g3 hU3 hl3 hr3 hln
            refine wpAnyH_all (rs := [4]) (by kernel_rfl) (by simp) ?_
            intro i hi
            simp only [List.mem_cons, List.not_mem_nil, or_false] at hi
            subst hi
            refine wpOp_append (.tmp 27) (.tmp 29) 22 (.slice (some ⟨g, 0, none⟩) (n + 1) c3) (.slice A1 n c1) (.slice (some ⟨gb, 0, none⟩) 1 1) rfl (by kernel_rfl) rfl (by kernel_rfl) (by kernel_rfl) (LX.out ▸ HR3.out) ?_
            refine ⟨hS3, ?_⟩
            simp only [Act.put]
            refine take_at (i := 5) (d := 6) (v := .slice (some ⟨g, 0, none⟩) (n + 1) c3) rfl rfl (by kernel_rfl) (by kernel_rfl) (by kernel_rfl) (fun _ _ _ h => h) (.inl ⟨by kernel_rfl, fun U hU => by go_simp⟩) hS3 ?_
            simp only [Act.put, List.setIfInBounds_toArray]
            refine wpAnyH_done (by kernel_rfl) ?_ _
            go_wp2_with fail
            refine HRI.out.mono ?_
            rintro e U4 ⟨rfl, r, hr, lr, o4, g4⟩
            have BU4 := Lib.hid (BU3.out.grown g4 BU3.out.size (by intro k hk; injection hk with hk; have := B4.out.size; omega))
            have HRR := Lib.hid (add_heap HOK.out HMAY.out HNI.out HN256.out hr)
            have LR := Lib.hid (show r.length = n + 1 by rw [lr]; simp [LX.out])
            have O4 := Lib.hid o4
            clear hr lr o4 g4
            go_wp2_with fail
            exact bodyPost_ret (v := .tuple #[.slice (some ⟨g, 0, none⟩) (n + 1) c3, .int .i64 0]) (by simp [results, Try.results11, go_sem]) rfl ⟨some ⟨g, 0, none⟩, c3, r, 0, by rw [LR.out], ⟨HZ.out.symm, fun q => absurd rfl q, fun _ => HRR.out⟩, O4.out.base B4.out.size, BU4.out⟩
          · unfold wpOp
            go_simp
            left
            have ba := (Below.refl U0.heap.size U0).alloc (Nat.le_refl _) (.cells #[.int .i64 t1, .int .i64 t2] 24)
            have hS1 := below3 hS0 ba
            have BU1 := Lib.hid (below3 BU0.out ba)
            have HXV := Lib.hid (HXU.out.below ba)
            have T0 := Lib.hid (tms1 U0 24 F1.out F2.out)
            clear ba
            obtain ⟨gb, hgb⟩ : ∃ g, U0.heap.size = g := ⟨_, rfl⟩
            obtain ⟨U1, hU1⟩ : ∃ U, U0.alloc (.cells #[.int .i64 t1, .int .i64 t2] 24) = U := ⟨_, rfl⟩
            rw [hU1] at hS1 BU1 HXV T0 ⊢
            rw [hgb] at T0 ⊢
            clear hU1 hgb
            refine ⟨hS1, ?_⟩
            refine wpAnyH_all (rs := [1]) (by kernel_rfl) (by simp) ?_
            intro i hi
            simp only [List.mem_cons, List.not_mem_nil, or_false] at hi
            subst hi
            unfold wpOp
            go_simp
            left
            refine (clone_any A n c l _ HXV.out (by omega)).mono ?_
            rintro e U2 ⟨A1, c1, rfl, o1, b1⟩
            have hS2 := below3 hS1 b1
            have BU2 := Lib.hid (below3 BU1.out b1)
            have O1 := Lib.hid (o1.base hS1.size)
            have T1 := Lib.hid (T0.out.below b1)
            refine ⟨hS2, ?_⟩
            clear b1 o1 T0
            rw [LX.out]
            have hln := LX.out
            obtain ⟨A3, c3, U3, hr3, o3, g3⟩ := run_append_tms (P := Try.prog) U2 22 22 24 _ rfl Try.underlying22 infoT w4.heap.size A1 c1 l O1.out (some ⟨gb, 0, none⟩) 1 1 [(t1, t2)] T1.out (by omega) hS2.size
            have hS3 : Below w4.heap.size w4 U3 := hS2.grown g3 hS2.size (fun k hk => O1.out.block k hk)
            have hU3 := below3 B4.out hS3
            obtain ⟨g, hA3, hg3⟩ : ∃ g, A3 = some ⟨g, 0, none⟩ ∧ w4.heap.size ≤ g := by
              obtain ⟨g, cap, e1, h1, _⟩ := o3.2.2.form (by simp)
              injection e1 with e1
              exact ⟨g, e1, h1⟩
            subst hA3
            have O3 := Lib.hid o3
            have BU3 := Lib.hid hU3
            have hl3 : (l ++ [(t1, t2)]).length = n + 1 := by simp [LX.out]
            rw [hl3] at hr3
            have HRI := Lib.hid (rise_any w4.heap.size g c3 (l ++ [(t1, t2)]) l.length U3 o3 (by simp) (by simp; omega))
            rw [hl3] at HRI
            rw [show ((l.length : Nat) : Int) = (n : Int) by rw [LX.out]] at HRI
            have HR3 := Lib.hid hr3
            clear o3 g3 hU3 hl3 hr3 hln
            refine wpAnyH_all (rs := [4]) (by kernel_rfl) (by simp) ?_
            intro i hi
            simp only [List.mem_cons, List.not_mem_nil, or_false] at hi
            subst hi
            refine wpOp_append (.tmp 27) (.tmp 29) 22 (.slice (some ⟨g, 0, none⟩) (n + 1) c3) (.slice A1 n c1) (.slice (some ⟨gb, 0, none⟩) 1 1) rfl (by kernel_rfl) rfl (by kernel_rfl) (by kernel_rfl) (LX.out ▸ HR3.out) ?_
            refine ⟨hS3, ?_⟩
            simp only [Act.put]
            refine take_at (i := 5) (d := 6) (v := .slice (some ⟨g, 0, none⟩) (n + 1) c3) rfl rfl (by kernel_rfl) (by kernel_rfl) (by kernel_rfl) (fun _ _ _ h => h) (.inl ⟨by kernel_rfl, fun U hU => by go_simp⟩) hS3 ?_
            simp only [Act.put, List.setIfInBounds_toArray]
            refine wpAnyH_done (by kernel_rfl) ?_ _
            go_wp2_with fail
            refine HRI.out.mono ?_
            rintro e U4 ⟨rfl, r, hr, lr, o4, g4⟩
            have BU4 := Lib.hid (BU3.out.grown g4 BU3.out.size (by intro k hk; injection hk with hk; have := B4.out.size; omega))
            have HRR := Lib.hid (add_heap HOK.out HMAY.out HNI.out HN256.out hr)
            have LR := Lib.hid (show r.length = n + 1 by rw [lr]; simp [LX.out])
            have O4 := Lib.hid o4
            clear hr lr o4 g4
            go_wp2_with fail
            exact bodyPost_ret (v := .tuple #[.slice (some ⟨g, 0, none⟩) (n + 1) c3, .int .i64 0]) (by simp [results, Try.results11, go_sem]) rfl ⟨some ⟨g, 0, none⟩, c3, r, 0, by rw [LR.out], ⟨HZ.out.symm, fun q => absurd rfl q, fun _ => HRR.out⟩, O4.out.base B4.out.size, BU4.out⟩
    · rw [decide_eq_false hm]
      have HE := Lib.hid (show z = 1 by rw [← HZ.out, addR, if_neg (fun q => hm q.2)])
      clear hm
      go_wp2_with fail
      exact bodyPost_ret (v := .tuple #[.slice none 0 0, .int .i64 1]) (by simp [results, Try.results11, go_sem]) rfl (RetE.none_ 1 rfl (AddSpec.err (HZ.out.trans HE.out) (by omega)) B2.out)
  · rw [if_neg hok]
    have HE := Lib.hid (show z = 1 by rw [← HZ.out, addR, if_neg (fun q => hok q.1)])
    clear hok
    go_wp2_with fail
    exact bodyPost_ret (v := .tuple #[.slice none 0 0, .int .i64 1]) (by simp [results, Try.results11, go_sem]) rfl (RetE.none_ 1 rfl (AddSpec.err (HZ.out.trans HE.out) (by omega)) B1.out)

end Go.Proofs.Ytjamoafihmcmeaa

/-
  The law JoinsDoes: the walk.
-/
import Derived.Test.YtkffmohgnbnhkaaJv
namespace Go.Proofs.Ytkffmohgnbnhkaa
open Go.RowKit

theorem OwnT.some_ {w : World} {base c : Nat} {A : Option Addr} {l : List Tm} (h : OwnT 37 w base A c l) (hl : 0 < l.length) : ∃ g, A = some ⟨g, 0, none⟩ ∧ base ≤ g := by
  obtain ⟨g, cap, e1, h1, _⟩ := h.2.2.form hl
  injection e1 with e1
  exact ⟨g, e1, h1⟩

theorem cellsP_set1 : ∀ (l : List Tm) (i : Nat) (x : Int), i < l.length → (cellsP l).set (i * 2) (.int .i64 x) = cellsP (l.set i (x, jA l i))
  | [], _, _, h => by simp at h
  | t :: l, 0, x, _ => by simp [cellsP, cells2, jA, ith]
  | t :: l, i + 1, x, h => by
    have ih := cellsP_set1 l i x (by simpa using h)
    have e : cellsP (t :: l) = [Value.int .i64 t.1, .int .i64 t.2] ++ cellsP l := by simp [cellsP, cells2]
    have e1 : jA (t :: l) (i + 1) = jA l i := by simp [jA, ith]
    have e2 : cellsP ((t :: l).set (i + 1) (x, jA (t :: l) (i + 1))) = [Value.int .i64 t.1, .int .i64 t.2] ++ cellsP (l.set i (x, jA l i)) := by rw [e1]; simp [cellsP, cells2]
    rw [e, e2, ← ih, show (i + 1) * 2 = i * 2 + 2 by omega]
    simp
theorem OwnT.put1 {w : World} {base g c : Nat} {l : List Tm} (h : RowT w base g c l) {i : Nat} (hi : i < l.length) {x : Int} (hx : Fit x) : RowT (w.setCell ⟨g, i * 2, none⟩ (.int .i64 x)) base g c (l.set i (x, jA l i)) := by
  have hf := h.fit hi
  obtain ⟨h1, h2, h3⟩ := h
  refine ⟨by rw [List.length_set]; exact h1, fun y hy => ?_, ?_⟩
  · rcases List.mem_or_eq_of_mem_set hy with h | h
    · exact h2 y h
    · rw [h]; exact ⟨hx, hf.2⟩
  · have a := (h3.stored (i * 2) (.int .i64 x)).1
    rw [cellsP_set1 _ _ _ hi] at a
    rw [List.length_set]
    exact a

theorem wrap_fit (x : Int) : Fit (IntKind.i64.wrap x) := by
  unfold Fit
  rw [IntKind.wrap_i64]
  omega
theorem below_app0 {w w' : World} {n c : Nat} (h : w.grownBy w' (Value.slice none n c).ownBlock) : Below w.heap.size w w' := ⟨h.os, h.tape, h.output, h.size, fun k hk => h.block k hk (by simp [Value.ownBlock])⟩
theorem sameB_refl2 (l : List Int) : sameB l l = true := sameB_refl l

set_option maxRecDepth 100000 in
set_option maxHeartbeats 16000000 in
theorem ldoes_any (A A' : Option Addr) (n c n' c' : Nat) (l l' : List Tm) (x y : Int) (w : World) (hx : Tms w A n c l) (hx' : Tms w A' n' c' l') (fx : Fit x) (fy : Fit y) :
    Calls Try.prog 3 #[.slice A n c, .slice A' n' c', .int .i64 x, .int .i64 y] w (TrueAns w) := by
  have HX := Lib.hid hx
  have LX := Lib.hid hx.1
  have HY := Lib.hid hx'
  have HFX := Lib.hid fx
  have HFY := Lib.hid fy
  have hnc := hx.2.1
  have hnc' := hx'.2.1
  clear hx hx' fx fy
  by_cases hn : 260 < n
  · have t0 : decide ((260 : Int) < (n : Int)) = true := by simp; omega
    go_enter Try.func3, Try.ntmps3
    go_wp2_with fail
    refine (live_any _).mono ?_
    rintro e w1 ⟨rfl, b⟩
    have B1 := Lib.hid b
    clear b
    go_wp2_with fail
    go_ret
    exact ⟨rfl, B1.out⟩
  · have t0 : decide ((260 : Int) < (n : Int)) = false := by simp; omega
    by_cases hn' : 260 < n'
    · have t1 : decide ((260 : Int) < (n' : Int)) = true := by simp; omega
      go_enter Try.func3, Try.ntmps3
      go_wp2_with fail
      refine (live_any _).mono ?_
      rintro e w1 ⟨rfl, b⟩
      have B1 := Lib.hid b
      clear b
      go_wp2_with fail
      go_ret
      exact ⟨rfl, B1.out⟩
    · have t1 : decide ((260 : Int) < (n' : Int)) = false := by simp; omega
      obtain ⟨⟨e1, la⟩, hr1⟩ : ∃ r, waitR l x y = r := ⟨_, rfl⟩
      have HR1 := Lib.hid hr1
      have te1 : (e1 == e1) = true := by simp
      obtain ⟨qla, hqla⟩ : ∃ q, la.length = q := ⟨_, rfl⟩
      have HQla := Lib.hid hqla
      clear hr1 hqla
      obtain ⟨⟨e2, gs, ld⟩, hr2⟩ : ∃ r, doneR l x = r := ⟨_, rfl⟩
      have HR2 := Lib.hid hr2
      have te2 : (e2 == e2) = true := by simp
      obtain ⟨qgs, hqgs⟩ : ∃ q, gs.length = q := ⟨_, rfl⟩
      have HQgs := Lib.hid hqgs
      obtain ⟨qld, hqld⟩ : ∃ q, ld.length = q := ⟨_, rfl⟩
      have HQld := Lib.hid hqld
      clear hr2 hqgs hqld
      obtain ⟨⟨e3, lp⟩, hr3⟩ : ∃ r, dropR l y = r := ⟨_, rfl⟩
      have HR3 := Lib.hid hr3
      have te3 : (e3 == e3) = true := by simp
      obtain ⟨qlp, hqlp⟩ : ∃ q, lp.length = q := ⟨_, rfl⟩
      have HQlp := Lib.hid hqlp
      clear hr3 hqlp
      obtain ⟨⟨e4, fs⟩, hr4⟩ : ∃ r, forR l y = r := ⟨_, rfl⟩
      have HR4 := Lib.hid hr4
      have te4 : (e4 == e4) = true := by simp
      obtain ⟨qfs, hqfs⟩ : ∃ q, fs.length = q := ⟨_, rfl⟩
      have HQfs := Lib.hid hqfs
      clear hr4 hqfs
      obtain ⟨ec, hec⟩ : ∃ r, checkR l = r := ⟨_, rfl⟩
      have HEC := Lib.hid hec
      have tec : (ec == ec) = true := by simp
      obtain ⟨sm, hsm⟩ : ∃ r, sameT l l' = r := ⟨_, rfl⟩
      have HSM := Lib.hid hsm
      have tsm : (sm == sm) = true := by simp
      have HS1 := Lib.hid (sameT_refl la)
      have HS2 := Lib.hid (sameT_refl ld)
      have HS3 := Lib.hid (sameT_refl lp)
      have HS4 := Lib.hid (sameB_refl2 gs)
      have HS5 := Lib.hid (sameB_refl2 fs)
      have HSL := Lib.hid (sameT_refl l)
      clear hec hsm
      go_enter Try.func3, Try.ntmps3
      go_wp2_with fail
      refine (live_any _).mono ?_
      rintro e w1 ⟨rfl, b⟩
      have B1 := Lib.hid b
      clear b
      have HX1 := Lib.hid (HX.out.below B1.out)
      go_wp2_with (at_builtin; refine wpList_append_tms _ rfl _ _ 22 rfl 37 _ rfl Try.underlying22 infoT w1.heap.size none 0 [] 0 rfl rfl (OwnT.nil_ _ _ _) A n c l rfl HX1.out (by simp; omega) (Nat.le_refl _) ?_; intro Aw cw w2 ho hgr; rw [List.nil_append] at ho ⊢; rw [LX.out]; have b := below_app0 hgr; have OW := Lib.hid ho; have B2 := Lib.hid (below3 B1.out b); have C2 := Lib.hid (Below.refl w2.heap.size w2); have hcw := ho.cap; rw [LX.out] at hcw; clear ho hgr b HX1)
      have HXW := Lib.hid (HX.out.below B2.out)
      have OWW := Lib.hid (OW.out.tmsN LX.out)
      refine (pwait_any A n c l x y _ (HX.out.below B2.out) HFX.out HFY.out).mono ?_
      rw [HR1.out]
      rintro e w3 ⟨A3, c3, rfl, o3, b⟩
      dsimp only at o3 ⊢
      have B3 := Lib.hid (below3 B2.out b)
      have C3 := Lib.hid (below3 C2.out b)
      replace OW := Lib.hid (OW.out.below b)
      have OA := Lib.hid (o3)
      clear b o3
      rw [HQla.out]
      have hca := OA.out.cap
      rw [HQla.out] at hca
      go_wp2_with fail
      refine (rwait_any A n c l x y _ (HX.out.below B3.out) HFX.out HFY.out).mono ?_
      rw [HR1.out]
      rintro e w4 ⟨A4, c4, rfl, o4, b⟩
      dsimp only at o4 ⊢
      have B4 := Lib.hid (below3 B3.out b)
      have C4 := Lib.hid (below3 C3.out b)
      replace OW := Lib.hid (OW.out.below b)
      replace OA := Lib.hid (OA.out.below b)
      have OB := Lib.hid (o4.base B3.out.size)
      clear b o4
      rw [HQla.out]
      have hcb := OB.out.cap
      rw [HQla.out] at hcb
      go_wp2_with fail
      refine (pdone_any A n c l x _ (HX.out.below B4.out)).mono ?_
      rw [HR2.out]
      rintro e w5 ⟨A5, c5, A5', c5', rfl, o5, q5, b⟩
      dsimp only at o5 q5 ⊢
      have B5 := Lib.hid (below3 B4.out b)
      have C5 := Lib.hid (below3 C4.out b)
      replace OW := Lib.hid (OW.out.below b)
      replace OA := Lib.hid (OA.out.below b)
      replace OB := Lib.hid (OB.out.below b)
      have OX := Lib.hid (o5.base B4.out.size)
      have OC := Lib.hid (q5.base B4.out.size)
      clear b o5 q5
      rw [HQgs.out, HQld.out]
      go_wp2_with fail
      refine (rdone_any A n c l x _ (HX.out.below B5.out)).mono ?_
      rw [HR2.out]
      rintro e w6 ⟨A6, c6, A6', c6', rfl, o6, q6, b⟩
      dsimp only at o6 q6 ⊢
      have B6 := Lib.hid (below3 B5.out b)
      have C6 := Lib.hid (below3 C5.out b)
      replace OW := Lib.hid (OW.out.below b)
      replace OA := Lib.hid (OA.out.below b)
      replace OB := Lib.hid (OB.out.below b)
      replace OX := Lib.hid (OX.out.below b)
      replace OC := Lib.hid (OC.out.below b)
      have OY := Lib.hid (o6.base B5.out.size)
      have OD := Lib.hid (q6.base B5.out.size)
      clear b o6 q6
      rw [HQgs.out, HQld.out]
      go_wp2_with fail
      refine (pdrop_any A n c l y _ (HX.out.below B6.out) HFY.out).mono ?_
      rw [HR3.out]
      rintro e w7 ⟨A7, c7, rfl, o7, b⟩
      dsimp only at o7 ⊢
      have B7 := Lib.hid (below3 B6.out b)
      have C7 := Lib.hid (below3 C6.out b)
      replace OW := Lib.hid (OW.out.below b)
      replace OA := Lib.hid (OA.out.below b)
      replace OB := Lib.hid (OB.out.below b)
      replace OX := Lib.hid (OX.out.below b)
      replace OC := Lib.hid (OC.out.below b)
      replace OY := Lib.hid (OY.out.below b)
      replace OD := Lib.hid (OD.out.below b)
      have OP := Lib.hid (o7.base B6.out.size)
      clear b o7
      rw [HQlp.out]
      go_wp2_with fail
      refine (rdrop_any A n c l y _ (HX.out.below B7.out)).mono ?_
      rw [HR3.out]
      rintro e w8 ⟨A8, c8, rfl, o8, b⟩
      dsimp only at o8 ⊢
      have B8 := Lib.hid (below3 B7.out b)
      have C8 := Lib.hid (below3 C7.out b)
      replace OW := Lib.hid (OW.out.below b)
      replace OA := Lib.hid (OA.out.below b)
      replace OB := Lib.hid (OB.out.below b)
      replace OX := Lib.hid (OX.out.below b)
      replace OC := Lib.hid (OC.out.below b)
      replace OY := Lib.hid (OY.out.below b)
      replace OD := Lib.hid (OD.out.below b)
      replace OP := Lib.hid (OP.out.below b)
      have OQ := Lib.hid (o8.base B7.out.size)
      clear b o8
      rw [HQlp.out]
      go_wp2_with fail
      refine (pfor_any A n c l y _ (HX.out.below B8.out) HFY.out).mono ?_
      rw [HR4.out]
      rintro e w9 ⟨A9, c9, rfl, o9, b⟩
      dsimp only at o9 ⊢
      have B9 := Lib.hid (below3 B8.out b)
      have C9 := Lib.hid (below3 C8.out b)
      replace OW := Lib.hid (OW.out.below b)
      replace OA := Lib.hid (OA.out.below b)
      replace OB := Lib.hid (OB.out.below b)
      replace OX := Lib.hid (OX.out.below b)
      replace OC := Lib.hid (OC.out.below b)
      replace OY := Lib.hid (OY.out.below b)
      replace OD := Lib.hid (OD.out.below b)
      replace OP := Lib.hid (OP.out.below b)
      replace OQ := Lib.hid (OQ.out.below b)
      have OS := Lib.hid (o9.base B8.out.size)
      clear b o9
      rw [HQfs.out]
      go_wp2_with fail
      refine (rfor_any A n c l y _ (HX.out.below B9.out)).mono ?_
      rw [HR4.out]
      rintro e w10 ⟨A10, c10, rfl, o10, b⟩
      dsimp only at o10 ⊢
      have B10 := Lib.hid (below3 B9.out b)
      have C10 := Lib.hid (below3 C9.out b)
      replace OW := Lib.hid (OW.out.below b)
      replace OA := Lib.hid (OA.out.below b)
      replace OB := Lib.hid (OB.out.below b)
      replace OX := Lib.hid (OX.out.below b)
      replace OC := Lib.hid (OC.out.below b)
      replace OY := Lib.hid (OY.out.below b)
      replace OD := Lib.hid (OD.out.below b)
      replace OP := Lib.hid (OP.out.below b)
      replace OQ := Lib.hid (OQ.out.below b)
      replace OS := Lib.hid (OS.out.below b)
      have OT := Lib.hid (o10.base B9.out.size)
      clear b o10
      rw [HQfs.out]
      go_wp2_with fail
      refine (rsame_any A3 A4 qla c3 qla c4 la la _ (OA.out.tmsN HQla.out) (OB.out.tmsN HQla.out)).mono ?_
      rw [HS1.out]
      rintro e w11x ⟨rfl, k, rfl⟩
      have b := drew_below w10 k
      generalize w10.drewN k = w11 at b ⊢
      have B11 := Lib.hid (below3 B10.out b)
      have C11 := Lib.hid (below3 C10.out b)
      replace OW := Lib.hid (OW.out.below b)
      replace OA := Lib.hid (OA.out.below b)
      replace OB := Lib.hid (OB.out.below b)
      replace OX := Lib.hid (OX.out.below b)
      replace OC := Lib.hid (OC.out.below b)
      replace OY := Lib.hid (OY.out.below b)
      replace OD := Lib.hid (OD.out.below b)
      replace OP := Lib.hid (OP.out.below b)
      replace OQ := Lib.hid (OQ.out.below b)
      replace OS := Lib.hid (OS.out.below b)
      replace OT := Lib.hid (OT.out.below b)
      clear b 
      go_wp2_with fail
      refine (rsame01_any A5 A6 qgs c5 qgs c6 gs gs _ (OX.out.intsN HQgs.out) (OY.out.intsN HQgs.out)).mono ?_
      rw [HS4.out]
      rintro e w12 ⟨rfl, b⟩
      have B12 := Lib.hid (below3 B11.out b)
      have C12 := Lib.hid (below3 C11.out b)
      replace OW := Lib.hid (OW.out.below b)
      replace OA := Lib.hid (OA.out.below b)
      replace OX := Lib.hid (OX.out.below b)
      replace OC := Lib.hid (OC.out.below b)
      replace OY := Lib.hid (OY.out.below b)
      replace OD := Lib.hid (OD.out.below b)
      replace OP := Lib.hid (OP.out.below b)
      replace OQ := Lib.hid (OQ.out.below b)
      replace OS := Lib.hid (OS.out.below b)
      replace OT := Lib.hid (OT.out.below b)
      clear b 
      go_wp2_with fail
      refine (rsame_any A5' A6' qld c5' qld c6' ld ld _ (OC.out.tmsN HQld.out) (OD.out.tmsN HQld.out)).mono ?_
      rw [HS2.out]
      rintro e w13x ⟨rfl, k, rfl⟩
      have b := drew_below w12 k
      generalize w12.drewN k = w13 at b ⊢
      have B13 := Lib.hid (below3 B12.out b)
      have C13 := Lib.hid (below3 C12.out b)
      replace OW := Lib.hid (OW.out.below b)
      replace OA := Lib.hid (OA.out.below b)
      replace OC := Lib.hid (OC.out.below b)
      replace OD := Lib.hid (OD.out.below b)
      replace OP := Lib.hid (OP.out.below b)
      replace OQ := Lib.hid (OQ.out.below b)
      replace OS := Lib.hid (OS.out.below b)
      replace OT := Lib.hid (OT.out.below b)
      clear b 
      go_wp2_with fail
      refine (rsame_any A7 A8 qlp c7 qlp c8 lp lp _ (OP.out.tmsN HQlp.out) (OQ.out.tmsN HQlp.out)).mono ?_
      rw [HS3.out]
      rintro e w14x ⟨rfl, k, rfl⟩
      have b := drew_below w13 k
      generalize w13.drewN k = w14 at b ⊢
      have B14 := Lib.hid (below3 B13.out b)
      have C14 := Lib.hid (below3 C13.out b)
      replace OW := Lib.hid (OW.out.below b)
      replace OA := Lib.hid (OA.out.below b)
      replace OP := Lib.hid (OP.out.below b)
      replace OQ := Lib.hid (OQ.out.below b)
      replace OS := Lib.hid (OS.out.below b)
      replace OT := Lib.hid (OT.out.below b)
      clear b 
      go_wp2_with fail
      refine (rsame01_any A9 A10 qfs c9 qfs c10 fs fs _ (OS.out.intsN HQfs.out) (OT.out.intsN HQfs.out)).mono ?_
      rw [HS5.out]
      rintro e w15 ⟨rfl, b⟩
      have B15 := Lib.hid (below3 B14.out b)
      have C15 := Lib.hid (below3 C14.out b)
      replace OW := Lib.hid (OW.out.below b)
      replace OA := Lib.hid (OA.out.below b)
      replace OS := Lib.hid (OS.out.below b)
      replace OT := Lib.hid (OT.out.below b)
      clear b 
      go_wp2_with fail
      refine (pcheck_any A n c l _ (HX.out.below B15.out)).mono ?_
      rw [HEC.out]
      rintro e w16 ⟨rfl, b⟩
      have B16 := Lib.hid (below3 B15.out b)
      have C16 := Lib.hid (below3 C15.out b)
      replace OW := Lib.hid (OW.out.below b)
      replace OA := Lib.hid (OA.out.below b)
      clear b 
      go_wp2_with fail
      refine (rcheck_any A n c l _ (HX.out.below B16.out)).mono ?_
      rw [HEC.out]
      rintro e w17 ⟨rfl, b⟩
      have B17 := Lib.hid (below3 B16.out b)
      have C17 := Lib.hid (below3 C16.out b)
      replace OW := Lib.hid (OW.out.below b)
      replace OA := Lib.hid (OA.out.below b)
      clear b 
      go_wp2_with fail
      refine (psame_any A A' n c n' c' l l' _ (HX.out.below B17.out) (HY.out.below B17.out)).mono ?_
      rw [HSM.out]
      rintro e w18x ⟨rfl, k, rfl⟩
      have b := drew_below w17 k
      generalize w17.drewN k = w18 at b ⊢
      have B18 := Lib.hid (below3 B17.out b)
      have C18 := Lib.hid (below3 C17.out b)
      replace OW := Lib.hid (OW.out.below b)
      replace OA := Lib.hid (OA.out.below b)
      clear b 
      go_wp2_with fail
      refine (rsame_any A A' n c n' c' l l' _ (HX.out.below B18.out) (HY.out.below B18.out)).mono ?_
      rw [HSM.out]
      rintro e w19x ⟨rfl, k, rfl⟩
      have b := drew_below w18 k
      generalize w18.drewN k = w19 at b ⊢
      have B19 := Lib.hid (below3 B18.out b)
      have C19 := Lib.hid (below3 C18.out b)
      replace OW := Lib.hid (OW.out.below b)
      replace OA := Lib.hid (OA.out.below b)
      clear b 
      go_wp2_with fail
      clear OW
      have hcA := OA.out.cap
      rw [HQla.out] at hcA
      go_loopw [158] (fun t wr => ∃ (k : Nat) (m : List Tm), t = .int .i64 (k : Int) ∧ k ≤ qla ∧ Hid (m.length = qla) ∧ Hid (OwnT 37 wr w2.heap.size A3 c3 m) ∧ Hid (Below w2.heap.size w2 wr)) (fun t _ => qla - (intOf t).toNat)
      case atStart => exact ⟨0, la, rfl, Nat.zero_le _, HQla, OA, C19⟩
      case round =>
        clear OA C19
        rename World => wr
        obtain ⟨k, m, rfl, hk, HM, OM, BC⟩ := hrel
        by_cases hkn : k < qla
        · have hkm : k < m.length := by rw [HM.out]; exact hkn
          obtain ⟨g, rfl, hg⟩ := OM.out.some_ (by omega)
          have OR : Hid (RowT wr w2.heap.size g c3 m) := OM
          obtain ⟨c0, c1, f0, f1⟩ := OR.out.at2 hkm
          obtain ⟨x1, hx1⟩ : ∃ z, jO m k = z := ⟨_, rfl⟩
          rw [hx1] at c0
          obtain ⟨v, hv⟩ : ∃ v, IntKind.i64.wrap (x1 + 1) = v := ⟨_, rfl⟩
          have fv : Fit v := hv ▸ wrap_fit _
          have O2 := Lib.hid (OR.out.put1 hkm fv)
          have B9 := Lib.hid (BC.out.setCell (p := ⟨g, k * 2, none⟩) hg (.int .i64 v))
          have HLM := Lib.hid (show (m.set k (v, jA m k)).length = qla by rw [List.length_set]; exact HM.out)
          clear hx1 fv OM OR hg BC
          go_wp2_with fail
          go_roundw
          case rel => exact ⟨k + 1, _, by go_num, by omega, HLM, O2, B9⟩
          case measure => simp only [intOf]; omega
        · have hkn' : k = qla := by omega
          have HKN := Lib.hid hkn'
          have BF := Lib.hid (below3 B2.out BC.out)
          have HS := Lib.hid (rsame_any A Aw n c n cw l l wr (HXW.out.below BC.out) (OWW.out.below BC.out))
          rw [HSL.out] at HS
          clear hkn' BC
          go_wp2_with fail
          refine HS.out.mono ?_
          rintro e w9 ⟨rfl, q, rfl⟩
          go_wp2_with fail
          go_ret
          exact ⟨rfl, below_drewN BF.out q⟩

end Go.Proofs.Ytkffmohgnbnhkaa

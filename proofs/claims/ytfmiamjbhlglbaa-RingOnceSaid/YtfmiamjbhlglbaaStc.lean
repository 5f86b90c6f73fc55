/-
  RingOnce's step (layer 7): somebody begins anew, and does the first access.
-/
import Derived.Test.YtfmiamjbhlglbaaStb
namespace Go.Proofs.Ytfmiamjbhlglbaa
open Go.RowKit Go.Maps

set_option maxHeartbeats 4000000 in
theorem stp_new_push0 (mA : Option Addr) (mc : Nat) (ms : List Int) (gh hcp : Nat) (hs : List Hd) (b n : Nat) (G : Int → Nat) (cap nx left lf nx1 who : Nat) (w : World) (R : RcI w mA ms gh hs b n G) (hw : who < hs.length) (hl : hs.length ≤ 10) (hq : MayQ ms.length 0 cap)
    (k p v t bb : Int) (wn : Bool) (s : Int) (hh : hth hs who = ⟨k, p, v, t, bb, wn, s⟩) (hk : k = 0) (hw0 : who = 0) (hlf : lf = left + 1) (hlb : left < 1000) (hnx : nx1 = nx + 1) (hnb : nx < 1000) (ms2 : List Int) (k2 p2 v2 t2 b2 : Int) (wn2 : Bool) (ha : accF ms 0 cap ⟨1, 0, (nx1 : Int), 0, 0, false, 0⟩ = some (ms2, ⟨k2, p2, v2, t2, b2, wn2, 0⟩)) :
    Calls Try.prog 20 #[.agg #[.slice mA ms.length mc, .int .i64 0, .int .i64 cap, .slice (some ⟨gh, 0, none⟩) hs.length hcp, .map (some b), .int .i64 nx, .int .i64 lf, .bool false], .int .i64 who, .bool false] w (StpOf cap b n w ms2 (hs.set who ⟨k2, p2, v2, t2, b2, wn2, 0⟩) G nx1 left) := by
  have k0 := (Bk.new w 49 #[.slice mA ms.length mc, .int .i64 0, .int .i64 cap, .slice (some ⟨gh, 0, none⟩) hs.length hcp, .map (some b), .int .i64 nx, .int .i64 lf, .bool false]).alloc (.cells #[.slice none 0 0, .int .i64 0, .int .i64 0, .slice none 0 0, .map none, .int .i64 0, .int .i64 0, .bool false] 49)
  have k1 := Bk.new (w.alloc (.cells #[.slice mA ms.length mc, .int .i64 0, .int .i64 cap, .slice (some ⟨gh, 0, none⟩) hs.length hcp, .map (some b), .int .i64 nx, .int .i64 lf, .bool false] 49)) 49 #[.slice none 0 0, .int .i64 0, .int .i64 0, .slice none 0 0, .map none, .int .i64 0, .int .i64 0, .bool false]
  rw [size_alloc] at k1
  have bl := two_boxes w #[.slice mA ms.length mc, .int .i64 0, .int .i64 cap, .slice (some ⟨gh, 0, none⟩) hs.length hcp, .map (some b), .int .i64 nx, .int .i64 lf, .bool false] #[.slice none 0 0, .int .i64 0, .int .i64 0, .slice none 0 0, .map none, .int .i64 0, .int .i64 0, .bool false] 49 49
  have hWs : ((w.alloc (.cells #[.slice mA ms.length mc, .int .i64 0, .int .i64 cap, .slice (some ⟨gh, 0, none⟩) hs.length hcp, .map (some b), .int .i64 nx, .int .i64 lf, .bool false] 49)).alloc (.cells #[.slice none 0 0, .int .i64 0, .int .i64 0, .slice none 0 0, .map none, .int .i64 0, .int .i64 0, .bool false] 49)).heap.size = w.heap.size + 2 := by simp
  obtain ⟨W, hW⟩ : ∃ W, (w.alloc (.cells #[.slice mA ms.length mc, .int .i64 0, .int .i64 cap, .slice (some ⟨gh, 0, none⟩) hs.length hcp, .map (some b), .int .i64 nx, .int .i64 lf, .bool false] 49)).alloc (.cells #[.slice none 0 0, .int .i64 0, .int .i64 0, .slice none 0 0, .map none, .int .i64 0, .int .i64 0, .bool false] 49) = W := ⟨_, rfl⟩
  rw [hW] at k0 k1 bl hWs
  have HW := Lib.hid hW
  have BLW := Lib.hid bl
  have RLW : Hid (w.heap.size + 1 < W.heap.size) := Lib.hid k1.lt
  have R0 := R.below bl
  have hkb : (k == 0) = true := by simpa using hk
  have hwb : ((who : Int) == 0) = true := by simp; exact hw0
  have hlz : ((lf : Int) == 0) = false := by subst hlf; simp; omega
  have hlw : IntKind.i64.wrap ((lf : Int) - 1) = (left : Int) := by subst hlf; rw [IntKind.wrap_i64]; omega
  have hnw : IntKind.i64.wrap ((nx : Int) + 1) = (nx1 : Int) := by subst hnx; rw [IntKind.wrap_i64]; omega
  have ha7 := (R0.h.at_ hw).1
  rw [hh] at ha7
  have c0 : _ = some (Value.int .i64 k) := ha7 0 (by omega)
  have c1 : _ = some (Value.int .i64 p) := ha7 1 (by omega)
  have c2 : _ = some (Value.int .i64 v) := ha7 2 (by omega)
  have c3 : _ = some (Value.int .i64 t) := ha7 3 (by omega)
  have c4 : _ = some (Value.int .i64 bb) := ha7 4 (by omega)
  have c5 : _ = some (Value.bool wn) := ha7 5 (by omega)
  have c6 : _ = some (Value.int .i64 s) := ha7 6 (by omega)
  rw [Nat.add_zero] at c0
  have x3 : _ = some (Value.slice (some ⟨gh, 0, none⟩) hs.length hcp) := k0.cell 3
  have ls := k0.lt
  obtain ⟨gh', eg, -, lgh⟩ := R0.h.form
  obtain rfl : gh = gh' := by injection eg with eg; injection eg
  have ba := (Below.refl W.heap.size W).alloc (Nat.le_refl _) (.cells #[.int .i64 k, .int .i64 p, .int .i64 v, .int .i64 t, .int .i64 bb, .bool wn, .int .i64 s] 27)
  have hAs : (W.alloc (.cells #[.int .i64 k, .int .i64 p, .int .i64 v, .int .i64 t, .int .i64 bb, .bool wn, .int .i64 s] 27)).heap.size = W.heap.size + 1 := by simp
  have k0a := k0.below ba k0.lt
  have k1a := k1.below ba k1.lt
  have bla := below3 bl ba
  have y5 : _ = some (Value.int .i64 lf) := k0a.cell 6
  have f5 := k0a.frozen 6
  have lsa := k0a.lt
  have k0p := k0.set_ 6 (.int .i64 left)
  have k1p := k1.far (p := ⟨w.heap.size, 6, none⟩) (by simp) (.int .i64 left)
  have blp := bl.setCell (p := ⟨w.heap.size, 6, none⟩) (Nat.le_refl _) (.int .i64 left)
  have by4 := (Below.refl (W.setCell ⟨w.heap.size, 6, none⟩ (.int .i64 left)).heap.size (W.setCell ⟨w.heap.size, 6, none⟩ (.int .i64 left))).alloc (Nat.le_refl _) (.cells #[.int .i64 k, .int .i64 p, .int .i64 v, .int .i64 t, .int .i64 bb, .bool wn, .int .i64 s] 27)
  have k4p := k0p.below by4 k0p.lt
  have y4 : _ = some (Value.int .i64 nx) := k4p.cell 5
  have f4 := k4p.frozen 5
  have k0p := k0p.set_ 5 (.int .i64 nx1)
  have k1p := k1p.far (p := ⟨w.heap.size, 5, none⟩) (by simp) (.int .i64 nx1)
  have blp := blp.setCell (p := ⟨w.heap.size, 5, none⟩) (Nat.le_refl _) (.int .i64 nx1)
  clear by4 k4p
  have bap := (Below.refl ((W.setCell ⟨w.heap.size, 6, none⟩ (.int .i64 left)).setCell ⟨w.heap.size, 5, none⟩ (.int .i64 nx1)).heap.size ((W.setCell ⟨w.heap.size, 6, none⟩ (.int .i64 left)).setCell ⟨w.heap.size, 5, none⟩ (.int .i64 nx1))).alloc (Nat.le_refl _) (.cells #[.int .i64 k, .int .i64 p, .int .i64 v, .int .i64 t, .int .i64 bb, .bool wn, .int .i64 s] 27)
  have khp := Bk.new ((W.setCell ⟨w.heap.size, 6, none⟩ (.int .i64 left)).setCell ⟨w.heap.size, 5, none⟩ (.int .i64 nx1)) 27 #[.int .i64 k, .int .i64 p, .int .i64 v, .int .i64 t, .int .i64 bb, .bool wn, .int .i64 s]
  simp only [World.size_setCell] at khp
  have k0p := k0p.below bap k0p.lt
  have k1p := k1p.below bap k1p.lt
  have blp := below3 blp bap
  have y4n : _ = some (Value.int .i64 nx1) := k0p.cell 5
  have lqp := k0p.lt
  have hPs : (((W.setCell ⟨w.heap.size, 6, none⟩ (.int .i64 left)).setCell ⟨w.heap.size, 5, none⟩ (.int .i64 nx1)).alloc (.cells #[.int .i64 k, .int .i64 p, .int .i64 v, .int .i64 t, .int .i64 bb, .bool wn, .int .i64 s] 27)).heap.size = W.heap.size + 1 := by simp
  obtain ⟨P, hP⟩ : ∃ P, (((W.setCell ⟨w.heap.size, 6, none⟩ (.int .i64 left)).setCell ⟨w.heap.size, 5, none⟩ (.int .i64 nx1)).alloc (.cells #[.int .i64 k, .int .i64 p, .int .i64 v, .int .i64 t, .int .i64 bb, .bool wn, .int .i64 s] 27)) = P := ⟨_, rfl⟩
  rw [hP] at k0p k1p khp blp hPs
  have HP := Lib.hid hP
  have KQP := Lib.hid k0p
  have KRP := Lib.hid k1p
  have KHP := Lib.hid khp
  have BLP := Lib.hid blp
  have HPs := Lib.hid hPs
  have RH := Lib.hid R
  have hm : MayH ⟨1, 0, (nx1 : Int), 0, 0, false, 0⟩ := may_new (kind := 1) (v := (nx1 : Int)) (by omega)
  have HST := Lib.hid (fun X (hx : Ints X mA ms.length ms) => step_any mA ms.length mc 0 cap ms ⟨1, 0, (nx1 : Int), 0, 0, false, 0⟩ X hx (by unfold Fit; omega) ⟨by omega, by have := hq.2.2.1; omega⟩ (HdF.of_may hm (by unfold Fit; simp only []; omega)))
  have hsf : stepF ms 0 cap ⟨1, 0, (nx1 : Int), 0, 0, false, 0⟩ = (0, ms2, ⟨k2, p2, v2, t2, b2, wn2, 0⟩) := by
    unfold stepF
    rw [if_pos ⟨hm, hq⟩, if_pos rfl, Int.toNat_natCast, show (0 : Int).toNat = 0 from rfl, ha]
  rw [hsf] at HST
  unfold hv at HST
  have HS0 := Lib.hid (fun w => start2_any 1 (nx1 : Int) w (by unfold Fit; omega))
  have hpc : 0 < pcsF 1 := by decide
  simp only [if_pos hpc] at HS0
  unfold newH hv at HS0
  have HH := Lib.hid hh
  have HL := Lib.hid hl
  clear hW k0 k1 bl hWs R0 ha7 ba hAs k0a k1a bla bap k0p k1p khp blp hP hPs hm hsf hk ha R eg hh hw0 hlf hlb hpc hnx hnb
  go_enter Try.func20, Try.ntmps20
  go_upto_region 1 with fail
  rw [HW.out]
  clear HW
  go_upto_region 14 with fail
  rw [HP.out]
  clear HP c0 c1 c2 c3 c4 c5 c6 x3 ls lgh y5 f5 lsa y4 f4 y4n lqp
  go_wp2_with fail
  refine (HS0.out _).mono ?_
  rintro e wS ⟨rfl, bS⟩
  have kqS := KQP.out.below bS KQP.out.lt
  have krS := KRP.out.below bS KRP.out.lt
  have khS := KHP.out.below bS KHP.out.lt
  have blS := below3 BLP.out bS
  obtain ⟨z0, z1, z2, z3, z4, z5, z6⟩ := khS.c7
  obtain ⟨e0, e1, e2, e3, e4, e5, e6⟩ := khS.f7
  have lz := khS.lt
  have hgW : W.heap.size ≠ w.heap.size := by have := RLW.out; omega
  have hgW1 : W.heap.size ≠ w.heap.size + 1 := by have := RLW.out; omega
  have kqX := kqS.far7 (Ne.symm hgW) (.int .i64 1) (.int .i64 0) (.int .i64 (nx1 : Int)) (.int .i64 0) (.int .i64 0) (.bool false) (.int .i64 0)
  have krX := krS.far7 (Ne.symm hgW1) (.int .i64 1) (.int .i64 0) (.int .i64 (nx1 : Int)) (.int .i64 0) (.int .i64 0) (.bool false) (.int .i64 0)
  have khX := bk_set7 khS (.int .i64 1) (.int .i64 0) (.int .i64 (nx1 : Int)) (.int .i64 0) (.int .i64 0) (.bool false) (.int .i64 0)
  have blX := below_set7 blS (by have := RLW.out; omega : w.heap.size ≤ W.heap.size) (.int .i64 1) (.int .i64 0) (.int .i64 (nx1 : Int)) (.int .i64 0) (.int .i64 0) (.bool false) (.int .i64 0)
  have hXs : P.heap.size ≤ (set7 wS W.heap.size (.int .i64 1) (.int .i64 0) (.int .i64 (nx1 : Int)) (.int .i64 0) (.int .i64 0) (.bool false) (.int .i64 0)).heap.size := by unfold set7; simp only [World.size_setCell]; exact bS.size
  obtain ⟨X, hX⟩ : ∃ X, set7 wS W.heap.size (.int .i64 1) (.int .i64 0) (.int .i64 (nx1 : Int)) (.int .i64 0) (.int .i64 0) (.bool false) (.int .i64 0) = X := ⟨_, rfl⟩
  rw [hX] at kqX krX khX blX hXs
  unfold set7 at hX
  have HX := Lib.hid hX
  have KA := Lib.hid kqX
  have K1A := Lib.hid krX
  have KHX := Lib.hid khX
  have BLA := Lib.hid blX
  have HXS := Lib.hid hXs
  have RA := Lib.hid (RH.out.below blX)
  clear hX kqX krX khX blX hXs kqS krS khS blS bS hgW hgW1 KQP KRP KHP BLP
  go_upto_region 15 with fail
  rw [HX.out]
  clear HX z0 z1 z2 z3 z4 z5 z6 e0 e1 e2 e3 e4 e5 e6 lz
  have y0 : _ = some (Value.slice mA ms.length mc) := KA.out.cell 0
  have y1 : _ = some (Value.int .i64 0) := KA.out.cell 1
  have y2 : _ = some (Value.int .i64 cap) := KA.out.cell 2
  have lsa := KA.out.lt
  obtain ⟨z0, z1, z2, z3, z4, z5, z6⟩ := KHX.out.c7
  have lz := KHX.out.lt
  go_wp2_with fail
  refine (HST.out _ RA.out.m).mono ?_
  rintro e w2 ⟨A2, c2', rfl, o2, b2'⟩
  have kq := KA.out.below b2' KA.out.lt
  have kr := K1A.out.below b2' K1A.out.lt
  have R2 := RA.out.below b2'
  have bl2 := below3 BLA.out b2'
  have ky := Bk.new w2 27 #[.int .i64 k2, .int .i64 p2, .int .i64 v2, .int .i64 t2, .int .i64 b2, .bool wn2, .int .i64 0]
  have bb2 := (Below.refl w2.heap.size w2).alloc (Nat.le_refl _) (.cells #[.int .i64 k2, .int .i64 p2, .int .i64 v2, .int .i64 t2, .int .i64 b2, .bool wn2, .int .i64 0] 27)
  have hw23 : (w2.alloc (.cells #[.int .i64 k2, .int .i64 p2, .int .i64 v2, .int .i64 t2, .int .i64 b2, .bool wn2, .int .i64 0] 27)).heap.size = w2.heap.size + 1 := by simp
  have kqy := kq.below bb2 kq.lt
  have hsw : w.heap.size + 1 < w2.heap.size := kr.lt
  have kry := kr.below bb2 kr.lt
  have Ry := R2.below bb2
  have oy := o2.below bb2
  have bly := below3 bl2 bb2
  have q3 : _ = some (Value.slice (some ⟨gh, 0, none⟩) hs.length hcp) := kqy.cell 3
  have lqy := kqy.lt
  have HOWN := Lib.hid Ry.h
  have KQ := Lib.hid kqy
  have KR := Lib.hid kry
  have KY := Lib.hid ky
  have OY := Lib.hid oy.ints
  have OB := Lib.hid (oy.block (n := 0) (d := 0))
  have ol2 : ∀ a : Addr, A2 = some a → a.block < (w2.alloc (.cells #[.int .i64 k2, .int .i64 p2, .int .i64 v2, .int .i64 t2, .int .i64 b2, .bool wn2, .int .i64 0] 27)).heap.size := fun a e => by subst e; exact (oy.2.2.lt a.block rfl).2
  have OL := Lib.hid ol2
  have GY := Lib.hid Ry.g
  have AB := Lib.hid (oy.ne_map Ry.g)
  have BY := Lib.hid bly
  have h0 : 0 < hs.length := by omega
  have hl10 : hs.length ≤ 1000 := by have := HL.out; omega
  clear z0 z1 z2 z3 z4 z5 z6 lz y0 y1 y2 lsa kq kr R2 bl2 ky bb2 kqy kry Ry oy ol2 bly o2 b2' KA K1A RA BLA
  simp only [hv]
  go_upto_region 20 with (at_builtin; go_loud (refine wpList_copyH _ rfl _ _ rfl rfl 0 gh hcp hs.length hs rfl rfl rfl HOWN.out h0 hl10 ?_; intro A4 c4' w4 oh4 bh4; obtain ⟨g4, rfl, hg4, hg4l⟩ := oh4.form; have kq4 := KQ.out.below bh4 KQ.out.lt; have kr4 := KR.out.below bh4 KR.out.lt; have ky4 := KY.out.below bh4 KY.out.lt; have m4 := OY.out.below bh4; have G4 := GY.out.below bh4; have bl4 := below3 BY.out bh4; rw [hw23] at hg4; have hbne : ∀ a, A2 = some a → a.block ≠ g4 := fun a e => by have := OL.out a e; omega))
  have hyb : w2.heap.size ≠ b := G4.ne_bk ky4
  have hbg : g4 ≠ b := by obtain ⟨gg, cs, e, -, hk, -, -⟩ := oh4; injection e with e; injection e with e _ _; subst e; exact G4.ne_bk hk
  have hsb : w.heap.size ≠ b := G4.ne_bk kq4
  have hrb : w.heap.size + 1 ≠ b := G4.ne_bk kr4
  obtain ⟨d7, fz⟩ := oh4.at_ hw
  rw [HH.out] at d7
  have d0 : _ = some (Value.int .i64 k) := d7 0 (by omega)
  have d1 : _ = some (Value.int .i64 p) := d7 1 (by omega)
  have d2 : _ = some (Value.int .i64 v) := d7 2 (by omega)
  have d3 : _ = some (Value.int .i64 t) := d7 3 (by omega)
  have d4 : _ = some (Value.int .i64 bb) := d7 4 (by omega)
  have d5 : _ = some (Value.bool wn) := d7 5 (by omega)
  have d6 : _ = some (Value.int .i64 s) := d7 6 (by omega)
  rw [Nat.add_zero] at d0
  have e0 := fz (who * 7)
  have e1 := fz (who * 7 + 1)
  have e2 := fz (who * 7 + 2)
  have e3 := fz (who * 7 + 3)
  have e4 := fz (who * 7 + 4)
  have e5 := fz (who * 7 + 5)
  have e6 := fz (who * 7 + 6)
  obtain ⟨z0, z1, z2, z3, z4, z5, z6⟩ := ky4.c7
  have ly := ky4.lt
  have oV := oh4.put hw ⟨k2, p2, v2, t2, b2, wn2, 0⟩
  have kqV := Bk.far7a (o := who * 7) kq4 (by omega : w.heap.size ≠ g4) (.int .i64 k2) (.int .i64 p2) (.int .i64 v2) (.int .i64 t2) (.int .i64 b2) (.bool wn2) (.int .i64 0)
  have krV := Bk.far7a (o := who * 7) kr4 (by omega : w.heap.size + 1 ≠ g4) (.int .i64 k2) (.int .i64 p2) (.int .i64 v2) (.int .i64 t2) (.int .i64 b2) (.bool wn2) (.int .i64 0)
  have kyV := Bk.far7a (o := who * 7) ky4 (by omega : w2.heap.size ≠ g4) (.int .i64 k2) (.int .i64 p2) (.int .i64 v2) (.int .i64 t2) (.int .i64 b2) (.bool wn2) (.int .i64 0)
  have gV := grown_set7a w4 g4 (who * 7) (.int .i64 k2) (.int .i64 p2) (.int .i64 v2) (.int .i64 t2) (.int .i64 b2) (.bool wn2) (.int .i64 0)
  have mV := m4.grown gV (fun a e e' => by injection e' with e'; exact hbne a e e')
  have GV := G4.grown gV (fun e => by injection e with e; exact hbg e.symm)
  have blV := below_set7a bl4 (by omega : w.heap.size ≤ g4) (who * 7) (.int .i64 k2) (.int .i64 p2) (.int .i64 v2) (.int .i64 t2) (.int .i64 b2) (.bool wn2) (.int .i64 0)
  simp only at oV
  obtain ⟨V, hV⟩ : ∃ V, set7a w4 g4 (who * 7) (.int .i64 k2) (.int .i64 p2) (.int .i64 v2) (.int .i64 t2) (.int .i64 b2) (.bool wn2) (.int .i64 0) = V := ⟨_, rfl⟩
  rw [hV] at oV kqV krV kyV mV GV blV
  unfold set7a at hV
  have HV := Lib.hid hV
  have OV := Lib.hid oV
  have KQV := Lib.hid kqV
  have KRV := Lib.hid krV
  have KYV := Lib.hid kyV
  have MV := Lib.hid mV
  have GVV := Lib.hid GV
  have BLV := Lib.hid blV
  clear hV d7 fz oV kqV krV kyV gV mV GV blV oh4 kq4 kr4 ky4 m4 G4 bl4 bh4 q3 lqy HOWN
  go_upto_region 21 with fail
  rw [HV.out]
  clear HV d0 d1 d2 d3 d4 d5 d6 e0 e1 e2 e3 e4 e5 e6 z0 z1 z2 z3 z4 z5 z6 ly
  have q3 : _ = some (Value.slice (some ⟨gh, 0, none⟩) hs.length hcp) := KQV.out.cell 3
  have q0 : _ = some (Value.slice mA ms.length mc) := KQV.out.cell 0
  have fq3 := KQV.out.frozen 3
  have fq0 := KQV.out.frozen 0
  have lq := KQV.out.lt
  have kqU := (KQV.out.set_ 3 (.slice (some ⟨g4, 0, none⟩) hs.length c4')).set_ 0 (.slice A2 ms2.length c2')
  have krU := (KRV.out.far (p := ⟨w.heap.size, 3, none⟩) (by simp) (.slice (some ⟨g4, 0, none⟩) hs.length c4')).far (p := ⟨w.heap.size, 0, none⟩) (by simp) (.slice A2 ms2.length c2')
  have hys : w2.heap.size ≠ w.heap.size := by omega
  have kyU := (KYV.out.far (p := ⟨w.heap.size, 3, none⟩) hys (.slice (some ⟨g4, 0, none⟩) hs.length c4')).far (p := ⟨w.heap.size, 0, none⟩) hys (.slice A2 ms2.length c2')
  have gU := (grown_set (w := V) (g := w.heap.size) (i := 3) (.slice (some ⟨g4, 0, none⟩) hs.length c4')).trans (grown_set (.slice A2 ms2.length c2') (i := 0))
  have hAs : ∀ a : Addr, A2 = some a → a.block ≠ w.heap.size := fun a e => by have h := OB.out a.block (by rw [e]; rfl); have := HXS.out; have := HPs.out; have := RLW.out; omega
  have mU := MV.out.grown gU (fun a e e' => by injection e' with e'; exact hAs a e e')
  have oU := OV.out.grown gU (fun k hk a e => by injection hk with hk; injection e with e; subst hk e; show g4 ≠ w.heap.size; omega)
  have GU := GVV.out.grown gU (fun e => by injection e with e; exact hsb e.symm)
  have blU := (BLV.out.setCell (p := ⟨w.heap.size, 3, none⟩) (Nat.le_refl _) (.slice (some ⟨g4, 0, none⟩) hs.length c4')).setCell (p := ⟨w.heap.size, 0, none⟩) (Nat.le_refl _) (.slice A2 ms2.length c2')
  obtain ⟨U, hU⟩ : ∃ U, (V.setCell ⟨w.heap.size, 3, none⟩ (.slice (some ⟨g4, 0, none⟩) hs.length c4')).setCell ⟨w.heap.size, 0, none⟩ (.slice A2 ms2.length c2') = U := ⟨_, rfl⟩
  rw [hU] at kqU krU kyU mU oU GU blU
  have HU := Lib.hid hU
  have KQU := Lib.hid kqU
  have KRU := Lib.hid krU
  have KYU := Lib.hid kyU
  have MU := Lib.hid mU
  have OU := Lib.hid oU
  have GU' := Lib.hid GU
  have BLU := Lib.hid blU
  clear hU kqU krU kyU gU hAs mU oU GU blU OV KQV KRV KYV MV GVV BLV
  go_upto_region 23 with fail
  rw [HU.out]
  clear HU q3 q0 fq3 fq0 lq
  obtain ⟨z0, z1, z2, z3, z4, z5, z6⟩ := KYU.out.c7
  have ly := KYU.out.lt
  have kq : Bk U w.heap.size 49 #[.slice A2 ms2.length c2', .int .i64 0, .int .i64 cap, .slice (some ⟨g4, 0, none⟩) hs.length c4', .map (some b), .int .i64 nx1, .int .i64 left, .bool false] := KQU.out
  have kr := KRU.out
  obtain ⟨x0, x1, x2, x3, x4, x5, x6, x7⟩ := kq.c8
  obtain ⟨y0, y1, y2, y3, y4, y5, y6, y7⟩ := kr.c8
  obtain ⟨g0, g1, g2, g3, g4', g5, g6, g7⟩ := kr.f8
  have lq := kq.lt
  have lr := kr.lt
  have K2 := Lib.hid (bk_set8 kr (.slice A2 ms2.length c2') (.int .i64 0) (.int .i64 cap) (.slice (some ⟨g4, 0, none⟩) hs.length c4') (.map (some b)) (.int .i64 nx1) (.int .i64 left) (.bool false))
  have G8 := grown_set8 U (w.heap.size + 1) (.slice A2 ms2.length c2') (.int .i64 0) (.int .i64 cap) (.slice (some ⟨g4, 0, none⟩) hs.length c4') (.map (some b)) (.int .i64 nx1) (.int .i64 left) (.bool false)
  have hA8 : ∀ a : Addr, A2 = some a → a.block ≠ w.heap.size + 1 := fun a e => by have h := OB.out a.block (by rw [e]; rfl); have := HXS.out; have := HPs.out; have := RLW.out; omega
  have M8 := Lib.hid (MU.out.grown G8 (fun a e e' => by injection e' with e'; exact hA8 a e e'))
  have O8 := Lib.hid (OU.out.grown G8 (fun k hk a e => by injection hk with hk; injection e with e; subst hk e; show g4 ≠ w.heap.size + 1; omega))
  have C8 := Lib.hid (GU'.out.grown G8 (fun e => by injection e with e; exact hrb e.symm))
  have B8 := Lib.hid (below_set8 BLU.out (by omega : w.heap.size ≤ w.heap.size + 1) (.slice A2 ms2.length c2') (.int .i64 0) (.int .i64 cap) (.slice (some ⟨g4, 0, none⟩) hs.length c4') (.map (some b)) (.int .i64 nx1) (.int .i64 left) (.bool false))
  clear kq kr G8 hA8
  go_wp2
  obtain ⟨r0, r1, r2, r3, r4, r5, r6, r7⟩ := K2.out.c8
  unfold set8 at r0 r1 r2 r3 r4 r5 r6 r7
  exact bodyPost_ret (v := .agg #[.slice A2 ms2.length c2', .int .i64 0, .int .i64 cap, .slice (some ⟨g4, 0, none⟩) hs.length c4', .map (some b), .int .i64 nx1, .int .i64 left, .bool false]) (by simp [results, Try.results20, go_sem, r0, r1, r2, r3, r4, r5, r6, r7]) rfl ⟨A2, c2', g4, c4', by unfold raceC; rw [List.length_set], ⟨M8.out, O8.out.base_ (Nat.zero_le _), C8.out⟩, Below.gb B8.out⟩

set_option maxHeartbeats 4000000 in
theorem stp_new_push1 (mA : Option Addr) (mc : Nat) (ms : List Int) (gh hcp : Nat) (hs : List Hd) (b n : Nat) (G : Int → Nat) (cap nx left lf nx1 who : Nat) (w : World) (R : RcI w mA ms gh hs b n G) (hw : who < hs.length) (hl : hs.length ≤ 10) (hq : MayQ ms.length 0 cap)
    (k p v t bb : Int) (wn : Bool) (s : Int) (hh : hth hs who = ⟨k, p, v, t, bb, wn, s⟩) (hk : k ≠ 0) (hsx : s ≠ 0) (hw0 : who = 0) (hlf : lf = left + 1) (hlb : left < 1000) (hnx : nx1 = nx + 1) (hnb : nx < 1000) (ms2 : List Int) (k2 p2 v2 t2 b2 : Int) (wn2 : Bool) (ha : accF ms 0 cap ⟨1, 0, (nx1 : Int), 0, 0, false, 0⟩ = some (ms2, ⟨k2, p2, v2, t2, b2, wn2, 0⟩)) :
    Calls Try.prog 20 #[.agg #[.slice mA ms.length mc, .int .i64 0, .int .i64 cap, .slice (some ⟨gh, 0, none⟩) hs.length hcp, .map (some b), .int .i64 nx, .int .i64 lf, .bool false], .int .i64 who, .bool false] w (StpOf cap b n w ms2 (hs.set who ⟨k2, p2, v2, t2, b2, wn2, 0⟩) G nx1 left) := by
  have k0 := (Bk.new w 49 #[.slice mA ms.length mc, .int .i64 0, .int .i64 cap, .slice (some ⟨gh, 0, none⟩) hs.length hcp, .map (some b), .int .i64 nx, .int .i64 lf, .bool false]).alloc (.cells #[.slice none 0 0, .int .i64 0, .int .i64 0, .slice none 0 0, .map none, .int .i64 0, .int .i64 0, .bool false] 49)
  have k1 := Bk.new (w.alloc (.cells #[.slice mA ms.length mc, .int .i64 0, .int .i64 cap, .slice (some ⟨gh, 0, none⟩) hs.length hcp, .map (some b), .int .i64 nx, .int .i64 lf, .bool false] 49)) 49 #[.slice none 0 0, .int .i64 0, .int .i64 0, .slice none 0 0, .map none, .int .i64 0, .int .i64 0, .bool false]
  rw [size_alloc] at k1
  have bl := two_boxes w #[.slice mA ms.length mc, .int .i64 0, .int .i64 cap, .slice (some ⟨gh, 0, none⟩) hs.length hcp, .map (some b), .int .i64 nx, .int .i64 lf, .bool false] #[.slice none 0 0, .int .i64 0, .int .i64 0, .slice none 0 0, .map none, .int .i64 0, .int .i64 0, .bool false] 49 49
  have hWs : ((w.alloc (.cells #[.slice mA ms.length mc, .int .i64 0, .int .i64 cap, .slice (some ⟨gh, 0, none⟩) hs.length hcp, .map (some b), .int .i64 nx, .int .i64 lf, .bool false] 49)).alloc (.cells #[.slice none 0 0, .int .i64 0, .int .i64 0, .slice none 0 0, .map none, .int .i64 0, .int .i64 0, .bool false] 49)).heap.size = w.heap.size + 2 := by simp
  obtain ⟨W, hW⟩ : ∃ W, (w.alloc (.cells #[.slice mA ms.length mc, .int .i64 0, .int .i64 cap, .slice (some ⟨gh, 0, none⟩) hs.length hcp, .map (some b), .int .i64 nx, .int .i64 lf, .bool false] 49)).alloc (.cells #[.slice none 0 0, .int .i64 0, .int .i64 0, .slice none 0 0, .map none, .int .i64 0, .int .i64 0, .bool false] 49) = W := ⟨_, rfl⟩
  rw [hW] at k0 k1 bl hWs
  have HW := Lib.hid hW
  have BLW := Lib.hid bl
  have RLW : Hid (w.heap.size + 1 < W.heap.size) := Lib.hid k1.lt
  have R0 := R.below bl
  have hkb : (k == 0) = false := by simpa using hk
  have hsb0 : (s == 0) = false := by simpa using hsx
  have hsb1 : (s != 0) = true := by simpa using hsx
  have hwb : ((who : Int) == 0) = true := by simp; exact hw0
  have hlz : ((lf : Int) == 0) = false := by subst hlf; simp; omega
  have hlw : IntKind.i64.wrap ((lf : Int) - 1) = (left : Int) := by subst hlf; rw [IntKind.wrap_i64]; omega
  have hnw : IntKind.i64.wrap ((nx : Int) + 1) = (nx1 : Int) := by subst hnx; rw [IntKind.wrap_i64]; omega
  have ha7 := (R0.h.at_ hw).1
  rw [hh] at ha7
  have c0 : _ = some (Value.int .i64 k) := ha7 0 (by omega)
  have c1 : _ = some (Value.int .i64 p) := ha7 1 (by omega)
  have c2 : _ = some (Value.int .i64 v) := ha7 2 (by omega)
  have c3 : _ = some (Value.int .i64 t) := ha7 3 (by omega)
  have c4 : _ = some (Value.int .i64 bb) := ha7 4 (by omega)
  have c5 : _ = some (Value.bool wn) := ha7 5 (by omega)
  have c6 : _ = some (Value.int .i64 s) := ha7 6 (by omega)
  rw [Nat.add_zero] at c0
  have x3 : _ = some (Value.slice (some ⟨gh, 0, none⟩) hs.length hcp) := k0.cell 3
  have ls := k0.lt
  obtain ⟨gh', eg, -, lgh⟩ := R0.h.form
  obtain rfl : gh = gh' := by injection eg with eg; injection eg
  have ba := (Below.refl W.heap.size W).alloc (Nat.le_refl _) (.cells #[.int .i64 k, .int .i64 p, .int .i64 v, .int .i64 t, .int .i64 bb, .bool wn, .int .i64 s] 27)
  have hAs : (W.alloc (.cells #[.int .i64 k, .int .i64 p, .int .i64 v, .int .i64 t, .int .i64 bb, .bool wn, .int .i64 s] 27)).heap.size = W.heap.size + 1 := by simp
  have k0a := k0.below ba k0.lt
  have k1a := k1.below ba k1.lt
  have bla := below3 bl ba
  have y5 : _ = some (Value.int .i64 lf) := k0a.cell 6
  have f5 := k0a.frozen 6
  have lsa := k0a.lt
  have k0p := k0.set_ 6 (.int .i64 left)
  have k1p := k1.far (p := ⟨w.heap.size, 6, none⟩) (by simp) (.int .i64 left)
  have blp := bl.setCell (p := ⟨w.heap.size, 6, none⟩) (Nat.le_refl _) (.int .i64 left)
  have by4 := (Below.refl (W.setCell ⟨w.heap.size, 6, none⟩ (.int .i64 left)).heap.size (W.setCell ⟨w.heap.size, 6, none⟩ (.int .i64 left))).alloc (Nat.le_refl _) (.cells #[.int .i64 k, .int .i64 p, .int .i64 v, .int .i64 t, .int .i64 bb, .bool wn, .int .i64 s] 27)
  have k4p := k0p.below by4 k0p.lt
  have y4 : _ = some (Value.int .i64 nx) := k4p.cell 5
  have f4 := k4p.frozen 5
  have k0p := k0p.set_ 5 (.int .i64 nx1)
  have k1p := k1p.far (p := ⟨w.heap.size, 5, none⟩) (by simp) (.int .i64 nx1)
  have blp := blp.setCell (p := ⟨w.heap.size, 5, none⟩) (Nat.le_refl _) (.int .i64 nx1)
  clear by4 k4p
  have bap := (Below.refl ((W.setCell ⟨w.heap.size, 6, none⟩ (.int .i64 left)).setCell ⟨w.heap.size, 5, none⟩ (.int .i64 nx1)).heap.size ((W.setCell ⟨w.heap.size, 6, none⟩ (.int .i64 left)).setCell ⟨w.heap.size, 5, none⟩ (.int .i64 nx1))).alloc (Nat.le_refl _) (.cells #[.int .i64 k, .int .i64 p, .int .i64 v, .int .i64 t, .int .i64 bb, .bool wn, .int .i64 s] 27)
  have khp := Bk.new ((W.setCell ⟨w.heap.size, 6, none⟩ (.int .i64 left)).setCell ⟨w.heap.size, 5, none⟩ (.int .i64 nx1)) 27 #[.int .i64 k, .int .i64 p, .int .i64 v, .int .i64 t, .int .i64 bb, .bool wn, .int .i64 s]
  simp only [World.size_setCell] at khp
  have k0p := k0p.below bap k0p.lt
  have k1p := k1p.below bap k1p.lt
  have blp := below3 blp bap
  have y4n : _ = some (Value.int .i64 nx1) := k0p.cell 5
  have lqp := k0p.lt
  have hPs : (((W.setCell ⟨w.heap.size, 6, none⟩ (.int .i64 left)).setCell ⟨w.heap.size, 5, none⟩ (.int .i64 nx1)).alloc (.cells #[.int .i64 k, .int .i64 p, .int .i64 v, .int .i64 t, .int .i64 bb, .bool wn, .int .i64 s] 27)).heap.size = W.heap.size + 1 := by simp
  obtain ⟨P, hP⟩ : ∃ P, (((W.setCell ⟨w.heap.size, 6, none⟩ (.int .i64 left)).setCell ⟨w.heap.size, 5, none⟩ (.int .i64 nx1)).alloc (.cells #[.int .i64 k, .int .i64 p, .int .i64 v, .int .i64 t, .int .i64 bb, .bool wn, .int .i64 s] 27)) = P := ⟨_, rfl⟩
  rw [hP] at k0p k1p khp blp hPs
  have HP := Lib.hid hP
  have KQP := Lib.hid k0p
  have KRP := Lib.hid k1p
  have KHP := Lib.hid khp
  have BLP := Lib.hid blp
  have HPs := Lib.hid hPs
  have RH := Lib.hid R
  have hm : MayH ⟨1, 0, (nx1 : Int), 0, 0, false, 0⟩ := may_new (kind := 1) (v := (nx1 : Int)) (by omega)
  have HST := Lib.hid (fun X (hx : Ints X mA ms.length ms) => step_any mA ms.length mc 0 cap ms ⟨1, 0, (nx1 : Int), 0, 0, false, 0⟩ X hx (by unfold Fit; omega) ⟨by omega, by have := hq.2.2.1; omega⟩ (HdF.of_may hm (by unfold Fit; simp only []; omega)))
  have hsf : stepF ms 0 cap ⟨1, 0, (nx1 : Int), 0, 0, false, 0⟩ = (0, ms2, ⟨k2, p2, v2, t2, b2, wn2, 0⟩) := by
    unfold stepF
    rw [if_pos ⟨hm, hq⟩, if_pos rfl, Int.toNat_natCast, show (0 : Int).toNat = 0 from rfl, ha]
  rw [hsf] at HST
  unfold hv at HST
  have HS0 := Lib.hid (fun w => start2_any 1 (nx1 : Int) w (by unfold Fit; omega))
  have hpc : 0 < pcsF 1 := by decide
  simp only [if_pos hpc] at HS0
  unfold newH hv at HS0
  have HH := Lib.hid hh
  have HL := Lib.hid hl
  clear hW k0 k1 bl hWs R0 ha7 ba hAs k0a k1a bla bap k0p k1p khp blp hP hPs hm hsf hk ha R eg hh hw0 hlf hlb hpc hnx hnb hsx
  go_enter Try.func20, Try.ntmps20
  go_upto_region 1 with fail
  rw [HW.out]
  clear HW
  go_upto_region 14 with fail
  rw [HP.out]
  clear HP c0 c1 c2 c3 c4 c5 c6 x3 ls lgh y5 f5 lsa y4 f4 y4n lqp
  go_wp2_with fail
  refine (HS0.out _).mono ?_
  rintro e wS ⟨rfl, bS⟩
  have kqS := KQP.out.below bS KQP.out.lt
  have krS := KRP.out.below bS KRP.out.lt
  have khS := KHP.out.below bS KHP.out.lt
  have blS := below3 BLP.out bS
  obtain ⟨z0, z1, z2, z3, z4, z5, z6⟩ := khS.c7
  obtain ⟨e0, e1, e2, e3, e4, e5, e6⟩ := khS.f7
  have lz := khS.lt
  have hgW : W.heap.size ≠ w.heap.size := by have := RLW.out; omega
  have hgW1 : W.heap.size ≠ w.heap.size + 1 := by have := RLW.out; omega
  have kqX := kqS.far7 (Ne.symm hgW) (.int .i64 1) (.int .i64 0) (.int .i64 (nx1 : Int)) (.int .i64 0) (.int .i64 0) (.bool false) (.int .i64 0)
  have krX := krS.far7 (Ne.symm hgW1) (.int .i64 1) (.int .i64 0) (.int .i64 (nx1 : Int)) (.int .i64 0) (.int .i64 0) (.bool false) (.int .i64 0)
  have khX := bk_set7 khS (.int .i64 1) (.int .i64 0) (.int .i64 (nx1 : Int)) (.int .i64 0) (.int .i64 0) (.bool false) (.int .i64 0)
  have blX := below_set7 blS (by have := RLW.out; omega : w.heap.size ≤ W.heap.size) (.int .i64 1) (.int .i64 0) (.int .i64 (nx1 : Int)) (.int .i64 0) (.int .i64 0) (.bool false) (.int .i64 0)
  have hXs : P.heap.size ≤ (set7 wS W.heap.size (.int .i64 1) (.int .i64 0) (.int .i64 (nx1 : Int)) (.int .i64 0) (.int .i64 0) (.bool false) (.int .i64 0)).heap.size := by unfold set7; simp only [World.size_setCell]; exact bS.size
  obtain ⟨X, hX⟩ : ∃ X, set7 wS W.heap.size (.int .i64 1) (.int .i64 0) (.int .i64 (nx1 : Int)) (.int .i64 0) (.int .i64 0) (.bool false) (.int .i64 0) = X := ⟨_, rfl⟩
  rw [hX] at kqX krX khX blX hXs
  unfold set7 at hX
  have HX := Lib.hid hX
  have KA := Lib.hid kqX
  have K1A := Lib.hid krX
  have KHX := Lib.hid khX
  have BLA := Lib.hid blX
  have HXS := Lib.hid hXs
  have RA := Lib.hid (RH.out.below blX)
  clear hX kqX krX khX blX hXs kqS krS khS blS bS hgW hgW1 KQP KRP KHP BLP
  go_upto_region 15 with fail
  rw [HX.out]
  clear HX z0 z1 z2 z3 z4 z5 z6 e0 e1 e2 e3 e4 e5 e6 lz
  have y0 : _ = some (Value.slice mA ms.length mc) := KA.out.cell 0
  have y1 : _ = some (Value.int .i64 0) := KA.out.cell 1
  have y2 : _ = some (Value.int .i64 cap) := KA.out.cell 2
  have lsa := KA.out.lt
  obtain ⟨z0, z1, z2, z3, z4, z5, z6⟩ := KHX.out.c7
  have lz := KHX.out.lt
  go_wp2_with fail
  refine (HST.out _ RA.out.m).mono ?_
  rintro e w2 ⟨A2, c2', rfl, o2, b2'⟩
  have kq := KA.out.below b2' KA.out.lt
  have kr := K1A.out.below b2' K1A.out.lt
  have R2 := RA.out.below b2'
  have bl2 := below3 BLA.out b2'
  have ky := Bk.new w2 27 #[.int .i64 k2, .int .i64 p2, .int .i64 v2, .int .i64 t2, .int .i64 b2, .bool wn2, .int .i64 0]
  have bb2 := (Below.refl w2.heap.size w2).alloc (Nat.le_refl _) (.cells #[.int .i64 k2, .int .i64 p2, .int .i64 v2, .int .i64 t2, .int .i64 b2, .bool wn2, .int .i64 0] 27)
  have hw23 : (w2.alloc (.cells #[.int .i64 k2, .int .i64 p2, .int .i64 v2, .int .i64 t2, .int .i64 b2, .bool wn2, .int .i64 0] 27)).heap.size = w2.heap.size + 1 := by simp
  have kqy := kq.below bb2 kq.lt
  have hsw : w.heap.size + 1 < w2.heap.size := kr.lt
  have kry := kr.below bb2 kr.lt
  have Ry := R2.below bb2
  have oy := o2.below bb2
  have bly := below3 bl2 bb2
  have q3 : _ = some (Value.slice (some ⟨gh, 0, none⟩) hs.length hcp) := kqy.cell 3
  have lqy := kqy.lt
  have HOWN := Lib.hid Ry.h
  have KQ := Lib.hid kqy
  have KR := Lib.hid kry
  have KY := Lib.hid ky
  have OY := Lib.hid oy.ints
  have OB := Lib.hid (oy.block (n := 0) (d := 0))
  have ol2 : ∀ a : Addr, A2 = some a → a.block < (w2.alloc (.cells #[.int .i64 k2, .int .i64 p2, .int .i64 v2, .int .i64 t2, .int .i64 b2, .bool wn2, .int .i64 0] 27)).heap.size := fun a e => by subst e; exact (oy.2.2.lt a.block rfl).2
  have OL := Lib.hid ol2
  have GY := Lib.hid Ry.g
  have AB := Lib.hid (oy.ne_map Ry.g)
  have BY := Lib.hid bly
  have h0 : 0 < hs.length := by omega
  have hl10 : hs.length ≤ 1000 := by have := HL.out; omega
  clear z0 z1 z2 z3 z4 z5 z6 lz y0 y1 y2 lsa kq kr R2 bl2 ky bb2 kqy kry Ry oy ol2 bly o2 b2' KA K1A RA BLA
  simp only [hv]
  go_upto_region 20 with (at_builtin; go_loud (refine wpList_copyH _ rfl _ _ rfl rfl 0 gh hcp hs.length hs rfl rfl rfl HOWN.out h0 hl10 ?_; intro A4 c4' w4 oh4 bh4; obtain ⟨g4, rfl, hg4, hg4l⟩ := oh4.form; have kq4 := KQ.out.below bh4 KQ.out.lt; have kr4 := KR.out.below bh4 KR.out.lt; have ky4 := KY.out.below bh4 KY.out.lt; have m4 := OY.out.below bh4; have G4 := GY.out.below bh4; have bl4 := below3 BY.out bh4; rw [hw23] at hg4; have hbne : ∀ a, A2 = some a → a.block ≠ g4 := fun a e => by have := OL.out a e; omega))
  have hyb : w2.heap.size ≠ b := G4.ne_bk ky4
  have hbg : g4 ≠ b := by obtain ⟨gg, cs, e, -, hk, -, -⟩ := oh4; injection e with e; injection e with e _ _; subst e; exact G4.ne_bk hk
  have hsb : w.heap.size ≠ b := G4.ne_bk kq4
  have hrb : w.heap.size + 1 ≠ b := G4.ne_bk kr4
  obtain ⟨d7, fz⟩ := oh4.at_ hw
  rw [HH.out] at d7
  have d0 : _ = some (Value.int .i64 k) := d7 0 (by omega)
  have d1 : _ = some (Value.int .i64 p) := d7 1 (by omega)
  have d2 : _ = some (Value.int .i64 v) := d7 2 (by omega)
  have d3 : _ = some (Value.int .i64 t) := d7 3 (by omega)
  have d4 : _ = some (Value.int .i64 bb) := d7 4 (by omega)
  have d5 : _ = some (Value.bool wn) := d7 5 (by omega)
  have d6 : _ = some (Value.int .i64 s) := d7 6 (by omega)
  rw [Nat.add_zero] at d0
  have e0 := fz (who * 7)
  have e1 := fz (who * 7 + 1)
  have e2 := fz (who * 7 + 2)
  have e3 := fz (who * 7 + 3)
  have e4 := fz (who * 7 + 4)
  have e5 := fz (who * 7 + 5)
  have e6 := fz (who * 7 + 6)
  obtain ⟨z0, z1, z2, z3, z4, z5, z6⟩ := ky4.c7
  have ly := ky4.lt
  have oV := oh4.put hw ⟨k2, p2, v2, t2, b2, wn2, 0⟩
  have kqV := Bk.far7a (o := who * 7) kq4 (by omega : w.heap.size ≠ g4) (.int .i64 k2) (.int .i64 p2) (.int .i64 v2) (.int .i64 t2) (.int .i64 b2) (.bool wn2) (.int .i64 0)
  have krV := Bk.far7a (o := who * 7) kr4 (by omega : w.heap.size + 1 ≠ g4) (.int .i64 k2) (.int .i64 p2) (.int .i64 v2) (.int .i64 t2) (.int .i64 b2) (.bool wn2) (.int .i64 0)
  have kyV := Bk.far7a (o := who * 7) ky4 (by omega : w2.heap.size ≠ g4) (.int .i64 k2) (.int .i64 p2) (.int .i64 v2) (.int .i64 t2) (.int .i64 b2) (.bool wn2) (.int .i64 0)
  have gV := grown_set7a w4 g4 (who * 7) (.int .i64 k2) (.int .i64 p2) (.int .i64 v2) (.int .i64 t2) (.int .i64 b2) (.bool wn2) (.int .i64 0)
  have mV := m4.grown gV (fun a e e' => by injection e' with e'; exact hbne a e e')
  have GV := G4.grown gV (fun e => by injection e with e; exact hbg e.symm)
  have blV := below_set7a bl4 (by omega : w.heap.size ≤ g4) (who * 7) (.int .i64 k2) (.int .i64 p2) (.int .i64 v2) (.int .i64 t2) (.int .i64 b2) (.bool wn2) (.int .i64 0)
  simp only at oV
  obtain ⟨V, hV⟩ : ∃ V, set7a w4 g4 (who * 7) (.int .i64 k2) (.int .i64 p2) (.int .i64 v2) (.int .i64 t2) (.int .i64 b2) (.bool wn2) (.int .i64 0) = V := ⟨_, rfl⟩
  rw [hV] at oV kqV krV kyV mV GV blV
  unfold set7a at hV
  have HV := Lib.hid hV
  have OV := Lib.hid oV
  have KQV := Lib.hid kqV
  have KRV := Lib.hid krV
  have KYV := Lib.hid kyV
  have MV := Lib.hid mV
  have GVV := Lib.hid GV
  have BLV := Lib.hid blV
  clear hV d7 fz oV kqV krV kyV gV mV GV blV oh4 kq4 kr4 ky4 m4 G4 bl4 bh4 q3 lqy HOWN
  go_upto_region 21 with fail
  rw [HV.out]
  clear HV d0 d1 d2 d3 d4 d5 d6 e0 e1 e2 e3 e4 e5 e6 z0 z1 z2 z3 z4 z5 z6 ly
  have q3 : _ = some (Value.slice (some ⟨gh, 0, none⟩) hs.length hcp) := KQV.out.cell 3
  have q0 : _ = some (Value.slice mA ms.length mc) := KQV.out.cell 0
  have fq3 := KQV.out.frozen 3
  have fq0 := KQV.out.frozen 0
  have lq := KQV.out.lt
  have kqU := (KQV.out.set_ 3 (.slice (some ⟨g4, 0, none⟩) hs.length c4')).set_ 0 (.slice A2 ms2.length c2')
  have krU := (KRV.out.far (p := ⟨w.heap.size, 3, none⟩) (by simp) (.slice (some ⟨g4, 0, none⟩) hs.length c4')).far (p := ⟨w.heap.size, 0, none⟩) (by simp) (.slice A2 ms2.length c2')
  have hys : w2.heap.size ≠ w.heap.size := by omega
  have kyU := (KYV.out.far (p := ⟨w.heap.size, 3, none⟩) hys (.slice (some ⟨g4, 0, none⟩) hs.length c4')).far (p := ⟨w.heap.size, 0, none⟩) hys (.slice A2 ms2.length c2')
  have gU := (grown_set (w := V) (g := w.heap.size) (i := 3) (.slice (some ⟨g4, 0, none⟩) hs.length c4')).trans (grown_set (.slice A2 ms2.length c2') (i := 0))
  have hAs : ∀ a : Addr, A2 = some a → a.block ≠ w.heap.size := fun a e => by have h := OB.out a.block (by rw [e]; rfl); have := HXS.out; have := HPs.out; have := RLW.out; omega
  have mU := MV.out.grown gU (fun a e e' => by injection e' with e'; exact hAs a e e')
  have oU := OV.out.grown gU (fun k hk a e => by injection hk with hk; injection e with e; subst hk e; show g4 ≠ w.heap.size; omega)
  have GU := GVV.out.grown gU (fun e => by injection e with e; exact hsb e.symm)
  have blU := (BLV.out.setCell (p := ⟨w.heap.size, 3, none⟩) (Nat.le_refl _) (.slice (some ⟨g4, 0, none⟩) hs.length c4')).setCell (p := ⟨w.heap.size, 0, none⟩) (Nat.le_refl _) (.slice A2 ms2.length c2')
  obtain ⟨U, hU⟩ : ∃ U, (V.setCell ⟨w.heap.size, 3, none⟩ (.slice (some ⟨g4, 0, none⟩) hs.length c4')).setCell ⟨w.heap.size, 0, none⟩ (.slice A2 ms2.length c2') = U := ⟨_, rfl⟩
  rw [hU] at kqU krU kyU mU oU GU blU
  have HU := Lib.hid hU
  have KQU := Lib.hid kqU
  have KRU := Lib.hid krU
  have KYU := Lib.hid kyU
  have MU := Lib.hid mU
  have OU := Lib.hid oU
  have GU' := Lib.hid GU
  have BLU := Lib.hid blU
  clear hU kqU krU kyU gU hAs mU oU GU blU OV KQV KRV KYV MV GVV BLV
  go_upto_region 23 with fail
  rw [HU.out]
  clear HU q3 q0 fq3 fq0 lq
  obtain ⟨z0, z1, z2, z3, z4, z5, z6⟩ := KYU.out.c7
  have ly := KYU.out.lt
  have kq : Bk U w.heap.size 49 #[.slice A2 ms2.length c2', .int .i64 0, .int .i64 cap, .slice (some ⟨g4, 0, none⟩) hs.length c4', .map (some b), .int .i64 nx1, .int .i64 left, .bool false] := KQU.out
  have kr := KRU.out
  obtain ⟨x0, x1, x2, x3, x4, x5, x6, x7⟩ := kq.c8
  obtain ⟨y0, y1, y2, y3, y4, y5, y6, y7⟩ := kr.c8
  obtain ⟨g0, g1, g2, g3, g4', g5, g6, g7⟩ := kr.f8
  have lq := kq.lt
  have lr := kr.lt
  have K2 := Lib.hid (bk_set8 kr (.slice A2 ms2.length c2') (.int .i64 0) (.int .i64 cap) (.slice (some ⟨g4, 0, none⟩) hs.length c4') (.map (some b)) (.int .i64 nx1) (.int .i64 left) (.bool false))
  have G8 := grown_set8 U (w.heap.size + 1) (.slice A2 ms2.length c2') (.int .i64 0) (.int .i64 cap) (.slice (some ⟨g4, 0, none⟩) hs.length c4') (.map (some b)) (.int .i64 nx1) (.int .i64 left) (.bool false)
  have hA8 : ∀ a : Addr, A2 = some a → a.block ≠ w.heap.size + 1 := fun a e => by have h := OB.out a.block (by rw [e]; rfl); have := HXS.out; have := HPs.out; have := RLW.out; omega
  have M8 := Lib.hid (MU.out.grown G8 (fun a e e' => by injection e' with e'; exact hA8 a e e'))
  have O8 := Lib.hid (OU.out.grown G8 (fun k hk a e => by injection hk with hk; injection e with e; subst hk e; show g4 ≠ w.heap.size + 1; omega))
  have C8 := Lib.hid (GU'.out.grown G8 (fun e => by injection e with e; exact hrb e.symm))
  have B8 := Lib.hid (below_set8 BLU.out (by omega : w.heap.size ≤ w.heap.size + 1) (.slice A2 ms2.length c2') (.int .i64 0) (.int .i64 cap) (.slice (some ⟨g4, 0, none⟩) hs.length c4') (.map (some b)) (.int .i64 nx1) (.int .i64 left) (.bool false))
  clear kq kr G8 hA8
  go_wp2
  obtain ⟨r0, r1, r2, r3, r4, r5, r6, r7⟩ := K2.out.c8
  unfold set8 at r0 r1 r2 r3 r4 r5 r6 r7
  exact bodyPost_ret (v := .agg #[.slice A2 ms2.length c2', .int .i64 0, .int .i64 cap, .slice (some ⟨g4, 0, none⟩) hs.length c4', .map (some b), .int .i64 nx1, .int .i64 left, .bool false]) (by simp [results, Try.results20, go_sem, r0, r1, r2, r3, r4, r5, r6, r7]) rfl ⟨A2, c2', g4, c4', by unfold raceC; rw [List.length_set], ⟨M8.out, O8.out.base_ (Nat.zero_le _), C8.out⟩, Below.gb B8.out⟩

set_option maxHeartbeats 4000000 in
theorem stp_new_pop0 (mA : Option Addr) (mc : Nat) (ms : List Int) (gh hcp : Nat) (hs : List Hd) (b n : Nat) (G : Int → Nat) (cap nx left lf who : Nat) (w : World) (R : RcI w mA ms gh hs b n G) (hw : who < hs.length) (hl : hs.length ≤ 10) (hq : MayQ ms.length 0 cap)
    (k p v t bb : Int) (wn : Bool) (s : Int) (hh : hth hs who = ⟨k, p, v, t, bb, wn, s⟩) (hk : k = 0) (hw0 : who = 0) (hlf : lf = left + 1) (hlb : left < 1000) (ms2 : List Int) (k2 p2 v2 t2 b2 : Int) (wn2 : Bool) (ha : accF ms 0 cap ⟨2, 0, 0, 0, 0, false, 0⟩ = some (ms2, ⟨k2, p2, v2, t2, b2, wn2, 0⟩)) :
    Calls Try.prog 20 #[.agg #[.slice mA ms.length mc, .int .i64 0, .int .i64 cap, .slice (some ⟨gh, 0, none⟩) hs.length hcp, .map (some b), .int .i64 nx, .int .i64 lf, .bool false], .int .i64 who, .bool true] w (StpOf cap b n w ms2 (hs.set who ⟨k2, p2, v2, t2, b2, wn2, 0⟩) G nx left) := by
  have k0 := (Bk.new w 49 #[.slice mA ms.length mc, .int .i64 0, .int .i64 cap, .slice (some ⟨gh, 0, none⟩) hs.length hcp, .map (some b), .int .i64 nx, .int .i64 lf, .bool false]).alloc (.cells #[.slice none 0 0, .int .i64 0, .int .i64 0, .slice none 0 0, .map none, .int .i64 0, .int .i64 0, .bool false] 49)
  have k1 := Bk.new (w.alloc (.cells #[.slice mA ms.length mc, .int .i64 0, .int .i64 cap, .slice (some ⟨gh, 0, none⟩) hs.length hcp, .map (some b), .int .i64 nx, .int .i64 lf, .bool false] 49)) 49 #[.slice none 0 0, .int .i64 0, .int .i64 0, .slice none 0 0, .map none, .int .i64 0, .int .i64 0, .bool false]
  rw [size_alloc] at k1
  have bl := two_boxes w #[.slice mA ms.length mc, .int .i64 0, .int .i64 cap, .slice (some ⟨gh, 0, none⟩) hs.length hcp, .map (some b), .int .i64 nx, .int .i64 lf, .bool false] #[.slice none 0 0, .int .i64 0, .int .i64 0, .slice none 0 0, .map none, .int .i64 0, .int .i64 0, .bool false] 49 49
  have hWs : ((w.alloc (.cells #[.slice mA ms.length mc, .int .i64 0, .int .i64 cap, .slice (some ⟨gh, 0, none⟩) hs.length hcp, .map (some b), .int .i64 nx, .int .i64 lf, .bool false] 49)).alloc (.cells #[.slice none 0 0, .int .i64 0, .int .i64 0, .slice none 0 0, .map none, .int .i64 0, .int .i64 0, .bool false] 49)).heap.size = w.heap.size + 2 := by simp
  obtain ⟨W, hW⟩ : ∃ W, (w.alloc (.cells #[.slice mA ms.length mc, .int .i64 0, .int .i64 cap, .slice (some ⟨gh, 0, none⟩) hs.length hcp, .map (some b), .int .i64 nx, .int .i64 lf, .bool false] 49)).alloc (.cells #[.slice none 0 0, .int .i64 0, .int .i64 0, .slice none 0 0, .map none, .int .i64 0, .int .i64 0, .bool false] 49) = W := ⟨_, rfl⟩
  rw [hW] at k0 k1 bl hWs
  have HW := Lib.hid hW
  have BLW := Lib.hid bl
  have RLW : Hid (w.heap.size + 1 < W.heap.size) := Lib.hid k1.lt
  have R0 := R.below bl
  have hkb : (k == 0) = true := by simpa using hk
  have hwb : ((who : Int) == 0) = true := by simp; exact hw0
  have hlz : ((lf : Int) == 0) = false := by subst hlf; simp; omega
  have hlw : IntKind.i64.wrap ((lf : Int) - 1) = (left : Int) := by subst hlf; rw [IntKind.wrap_i64]; omega
  skip
  have ha7 := (R0.h.at_ hw).1
  rw [hh] at ha7
  have c0 : _ = some (Value.int .i64 k) := ha7 0 (by omega)
  have c1 : _ = some (Value.int .i64 p) := ha7 1 (by omega)
  have c2 : _ = some (Value.int .i64 v) := ha7 2 (by omega)
  have c3 : _ = some (Value.int .i64 t) := ha7 3 (by omega)
  have c4 : _ = some (Value.int .i64 bb) := ha7 4 (by omega)
  have c5 : _ = some (Value.bool wn) := ha7 5 (by omega)
  have c6 : _ = some (Value.int .i64 s) := ha7 6 (by omega)
  rw [Nat.add_zero] at c0
  have x3 : _ = some (Value.slice (some ⟨gh, 0, none⟩) hs.length hcp) := k0.cell 3
  have ls := k0.lt
  obtain ⟨gh', eg, -, lgh⟩ := R0.h.form
  obtain rfl : gh = gh' := by injection eg with eg; injection eg
  have ba := (Below.refl W.heap.size W).alloc (Nat.le_refl _) (.cells #[.int .i64 k, .int .i64 p, .int .i64 v, .int .i64 t, .int .i64 bb, .bool wn, .int .i64 s] 27)
  have hAs : (W.alloc (.cells #[.int .i64 k, .int .i64 p, .int .i64 v, .int .i64 t, .int .i64 bb, .bool wn, .int .i64 s] 27)).heap.size = W.heap.size + 1 := by simp
  have k0a := k0.below ba k0.lt
  have k1a := k1.below ba k1.lt
  have bla := below3 bl ba
  have y5 : _ = some (Value.int .i64 lf) := k0a.cell 6
  have f5 := k0a.frozen 6
  have lsa := k0a.lt
  have k0p := k0.set_ 6 (.int .i64 left)
  have k1p := k1.far (p := ⟨w.heap.size, 6, none⟩) (by simp) (.int .i64 left)
  have blp := bl.setCell (p := ⟨w.heap.size, 6, none⟩) (Nat.le_refl _) (.int .i64 left)
  have bap := (Below.refl (W.setCell ⟨w.heap.size, 6, none⟩ (.int .i64 left)).heap.size (W.setCell ⟨w.heap.size, 6, none⟩ (.int .i64 left))).alloc (Nat.le_refl _) (.cells #[.int .i64 k, .int .i64 p, .int .i64 v, .int .i64 t, .int .i64 bb, .bool wn, .int .i64 s] 27)
  have khp := Bk.new (W.setCell ⟨w.heap.size, 6, none⟩ (.int .i64 left)) 27 #[.int .i64 k, .int .i64 p, .int .i64 v, .int .i64 t, .int .i64 bb, .bool wn, .int .i64 s]
  simp only [World.size_setCell] at khp
  have k0p := k0p.below bap k0p.lt
  have k1p := k1p.below bap k1p.lt
  have blp := below3 blp bap
  have hPs : ((W.setCell ⟨w.heap.size, 6, none⟩ (.int .i64 left)).alloc (.cells #[.int .i64 k, .int .i64 p, .int .i64 v, .int .i64 t, .int .i64 bb, .bool wn, .int .i64 s] 27)).heap.size = W.heap.size + 1 := by simp
  obtain ⟨P, hP⟩ : ∃ P, ((W.setCell ⟨w.heap.size, 6, none⟩ (.int .i64 left)).alloc (.cells #[.int .i64 k, .int .i64 p, .int .i64 v, .int .i64 t, .int .i64 bb, .bool wn, .int .i64 s] 27)) = P := ⟨_, rfl⟩
  rw [hP] at k0p k1p khp blp hPs
  have HP := Lib.hid hP
  have KQP := Lib.hid k0p
  have KRP := Lib.hid k1p
  have KHP := Lib.hid khp
  have BLP := Lib.hid blp
  have HPs := Lib.hid hPs
  have RH := Lib.hid R
  have hm : MayH ⟨2, 0, 0, 0, 0, false, 0⟩ := may_new (kind := 2) (v := 0) (by omega)
  have HST := Lib.hid (fun X (hx : Ints X mA ms.length ms) => step_any mA ms.length mc 0 cap ms ⟨2, 0, 0, 0, 0, false, 0⟩ X hx (by unfold Fit; omega) ⟨by omega, by have := hq.2.2.1; omega⟩ (HdF.of_may hm fit0))
  have hsf : stepF ms 0 cap ⟨2, 0, 0, 0, 0, false, 0⟩ = (0, ms2, ⟨k2, p2, v2, t2, b2, wn2, 0⟩) := by
    unfold stepF
    rw [if_pos ⟨hm, hq⟩, if_pos rfl, Int.toNat_natCast, show (0 : Int).toNat = 0 from rfl, ha]
  rw [hsf] at HST
  unfold hv at HST
  have HS0 := Lib.hid (fun w => start2_any 2 0 w (by unfold Fit; omega))
  have hpc : 0 < pcsF 2 := by decide
  simp only [if_pos hpc] at HS0
  unfold newH hv at HS0
  have HH := Lib.hid hh
  have HL := Lib.hid hl
  clear hW k0 k1 bl hWs R0 ha7 ba hAs k0a k1a bla bap k0p k1p khp blp hP hPs hm hsf hk ha R eg hh hw0 hlf hlb hpc
  go_enter Try.func20, Try.ntmps20
  go_upto_region 1 with fail
  rw [HW.out]
  clear HW
  go_upto_region 14 with fail
  rw [HP.out]
  clear HP c0 c1 c2 c3 c4 c5 c6 x3 ls lgh y5 f5 lsa
  go_wp2_with fail
  refine (HS0.out _).mono ?_
  rintro e wS ⟨rfl, bS⟩
  have kqS := KQP.out.below bS KQP.out.lt
  have krS := KRP.out.below bS KRP.out.lt
  have khS := KHP.out.below bS KHP.out.lt
  have blS := below3 BLP.out bS
  obtain ⟨z0, z1, z2, z3, z4, z5, z6⟩ := khS.c7
  obtain ⟨e0, e1, e2, e3, e4, e5, e6⟩ := khS.f7
  have lz := khS.lt
  have hgW : W.heap.size ≠ w.heap.size := by have := RLW.out; omega
  have hgW1 : W.heap.size ≠ w.heap.size + 1 := by have := RLW.out; omega
  have kqX := kqS.far7 (Ne.symm hgW) (.int .i64 2) (.int .i64 0) (.int .i64 0) (.int .i64 0) (.int .i64 0) (.bool false) (.int .i64 0)
  have krX := krS.far7 (Ne.symm hgW1) (.int .i64 2) (.int .i64 0) (.int .i64 0) (.int .i64 0) (.int .i64 0) (.bool false) (.int .i64 0)
  have khX := bk_set7 khS (.int .i64 2) (.int .i64 0) (.int .i64 0) (.int .i64 0) (.int .i64 0) (.bool false) (.int .i64 0)
  have blX := below_set7 blS (by have := RLW.out; omega : w.heap.size ≤ W.heap.size) (.int .i64 2) (.int .i64 0) (.int .i64 0) (.int .i64 0) (.int .i64 0) (.bool false) (.int .i64 0)
  have hXs : P.heap.size ≤ (set7 wS W.heap.size (.int .i64 2) (.int .i64 0) (.int .i64 0) (.int .i64 0) (.int .i64 0) (.bool false) (.int .i64 0)).heap.size := by unfold set7; simp only [World.size_setCell]; exact bS.size
  obtain ⟨X, hX⟩ : ∃ X, set7 wS W.heap.size (.int .i64 2) (.int .i64 0) (.int .i64 0) (.int .i64 0) (.int .i64 0) (.bool false) (.int .i64 0) = X := ⟨_, rfl⟩
  rw [hX] at kqX krX khX blX hXs
  unfold set7 at hX
  have HX := Lib.hid hX
  have KA := Lib.hid kqX
  have K1A := Lib.hid krX
  have KHX := Lib.hid khX
  have BLA := Lib.hid blX
  have HXS := Lib.hid hXs
  have RA := Lib.hid (RH.out.below blX)
  clear hX kqX krX khX blX hXs kqS krS khS blS bS hgW hgW1 KQP KRP KHP BLP
  go_upto_region 15 with fail
  rw [HX.out]
  clear HX z0 z1 z2 z3 z4 z5 z6 e0 e1 e2 e3 e4 e5 e6 lz
  have y0 : _ = some (Value.slice mA ms.length mc) := KA.out.cell 0
  have y1 : _ = some (Value.int .i64 0) := KA.out.cell 1
  have y2 : _ = some (Value.int .i64 cap) := KA.out.cell 2
  have lsa := KA.out.lt
  obtain ⟨z0, z1, z2, z3, z4, z5, z6⟩ := KHX.out.c7
  have lz := KHX.out.lt
  go_wp2_with fail
  refine (HST.out _ RA.out.m).mono ?_
  rintro e w2 ⟨A2, c2', rfl, o2, b2'⟩
  have kq := KA.out.below b2' KA.out.lt
  have kr := K1A.out.below b2' K1A.out.lt
  have R2 := RA.out.below b2'
  have bl2 := below3 BLA.out b2'
  have ky := Bk.new w2 27 #[.int .i64 k2, .int .i64 p2, .int .i64 v2, .int .i64 t2, .int .i64 b2, .bool wn2, .int .i64 0]
  have bb2 := (Below.refl w2.heap.size w2).alloc (Nat.le_refl _) (.cells #[.int .i64 k2, .int .i64 p2, .int .i64 v2, .int .i64 t2, .int .i64 b2, .bool wn2, .int .i64 0] 27)
  have hw23 : (w2.alloc (.cells #[.int .i64 k2, .int .i64 p2, .int .i64 v2, .int .i64 t2, .int .i64 b2, .bool wn2, .int .i64 0] 27)).heap.size = w2.heap.size + 1 := by simp
  have kqy := kq.below bb2 kq.lt
  have hsw : w.heap.size + 1 < w2.heap.size := kr.lt
  have kry := kr.below bb2 kr.lt
  have Ry := R2.below bb2
  have oy := o2.below bb2
  have bly := below3 bl2 bb2
  have q3 : _ = some (Value.slice (some ⟨gh, 0, none⟩) hs.length hcp) := kqy.cell 3
  have lqy := kqy.lt
  have HOWN := Lib.hid Ry.h
  have KQ := Lib.hid kqy
  have KR := Lib.hid kry
  have KY := Lib.hid ky
  have OY := Lib.hid oy.ints
  have OB := Lib.hid (oy.block (n := 0) (d := 0))
  have ol2 : ∀ a : Addr, A2 = some a → a.block < (w2.alloc (.cells #[.int .i64 k2, .int .i64 p2, .int .i64 v2, .int .i64 t2, .int .i64 b2, .bool wn2, .int .i64 0] 27)).heap.size := fun a e => by subst e; exact (oy.2.2.lt a.block rfl).2
  have OL := Lib.hid ol2
  have GY := Lib.hid Ry.g
  have AB := Lib.hid (oy.ne_map Ry.g)
  have BY := Lib.hid bly
  have h0 : 0 < hs.length := by omega
  have hl10 : hs.length ≤ 1000 := by have := HL.out; omega
  clear z0 z1 z2 z3 z4 z5 z6 lz y0 y1 y2 lsa kq kr R2 bl2 ky bb2 kqy kry Ry oy ol2 bly o2 b2' KA K1A RA BLA
  simp only [hv]
  go_upto_region 20 with (at_builtin; go_loud (refine wpList_copyH _ rfl _ _ rfl rfl 0 gh hcp hs.length hs rfl rfl rfl HOWN.out h0 hl10 ?_; intro A4 c4' w4 oh4 bh4; obtain ⟨g4, rfl, hg4, hg4l⟩ := oh4.form; have kq4 := KQ.out.below bh4 KQ.out.lt; have kr4 := KR.out.below bh4 KR.out.lt; have ky4 := KY.out.below bh4 KY.out.lt; have m4 := OY.out.below bh4; have G4 := GY.out.below bh4; have bl4 := below3 BY.out bh4; rw [hw23] at hg4; have hbne : ∀ a, A2 = some a → a.block ≠ g4 := fun a e => by have := OL.out a e; omega))
  have hyb : w2.heap.size ≠ b := G4.ne_bk ky4
  have hbg : g4 ≠ b := by obtain ⟨gg, cs, e, -, hk, -, -⟩ := oh4; injection e with e; injection e with e _ _; subst e; exact G4.ne_bk hk
  have hsb : w.heap.size ≠ b := G4.ne_bk kq4
  have hrb : w.heap.size + 1 ≠ b := G4.ne_bk kr4
  obtain ⟨d7, fz⟩ := oh4.at_ hw
  rw [HH.out] at d7
  have d0 : _ = some (Value.int .i64 k) := d7 0 (by omega)
  have d1 : _ = some (Value.int .i64 p) := d7 1 (by omega)
  have d2 : _ = some (Value.int .i64 v) := d7 2 (by omega)
  have d3 : _ = some (Value.int .i64 t) := d7 3 (by omega)
  have d4 : _ = some (Value.int .i64 bb) := d7 4 (by omega)
  have d5 : _ = some (Value.bool wn) := d7 5 (by omega)
  have d6 : _ = some (Value.int .i64 s) := d7 6 (by omega)
  rw [Nat.add_zero] at d0
  have e0 := fz (who * 7)
  have e1 := fz (who * 7 + 1)
  have e2 := fz (who * 7 + 2)
  have e3 := fz (who * 7 + 3)
  have e4 := fz (who * 7 + 4)
  have e5 := fz (who * 7 + 5)
  have e6 := fz (who * 7 + 6)
  obtain ⟨z0, z1, z2, z3, z4, z5, z6⟩ := ky4.c7
  have ly := ky4.lt
  have oV := oh4.put hw ⟨k2, p2, v2, t2, b2, wn2, 0⟩
  have kqV := Bk.far7a (o := who * 7) kq4 (by omega : w.heap.size ≠ g4) (.int .i64 k2) (.int .i64 p2) (.int .i64 v2) (.int .i64 t2) (.int .i64 b2) (.bool wn2) (.int .i64 0)
  have krV := Bk.far7a (o := who * 7) kr4 (by omega : w.heap.size + 1 ≠ g4) (.int .i64 k2) (.int .i64 p2) (.int .i64 v2) (.int .i64 t2) (.int .i64 b2) (.bool wn2) (.int .i64 0)
  have kyV := Bk.far7a (o := who * 7) ky4 (by omega : w2.heap.size ≠ g4) (.int .i64 k2) (.int .i64 p2) (.int .i64 v2) (.int .i64 t2) (.int .i64 b2) (.bool wn2) (.int .i64 0)
  have gV := grown_set7a w4 g4 (who * 7) (.int .i64 k2) (.int .i64 p2) (.int .i64 v2) (.int .i64 t2) (.int .i64 b2) (.bool wn2) (.int .i64 0)
  have mV := m4.grown gV (fun a e e' => by injection e' with e'; exact hbne a e e')
  have GV := G4.grown gV (fun e => by injection e with e; exact hbg e.symm)
  have blV := below_set7a bl4 (by omega : w.heap.size ≤ g4) (who * 7) (.int .i64 k2) (.int .i64 p2) (.int .i64 v2) (.int .i64 t2) (.int .i64 b2) (.bool wn2) (.int .i64 0)
  simp only at oV
  obtain ⟨V, hV⟩ : ∃ V, set7a w4 g4 (who * 7) (.int .i64 k2) (.int .i64 p2) (.int .i64 v2) (.int .i64 t2) (.int .i64 b2) (.bool wn2) (.int .i64 0) = V := ⟨_, rfl⟩
  rw [hV] at oV kqV krV kyV mV GV blV
  unfold set7a at hV
  have HV := Lib.hid hV
  have OV := Lib.hid oV
  have KQV := Lib.hid kqV
  have KRV := Lib.hid krV
  have KYV := Lib.hid kyV
  have MV := Lib.hid mV
  have GVV := Lib.hid GV
  have BLV := Lib.hid blV
  clear hV d7 fz oV kqV krV kyV gV mV GV blV oh4 kq4 kr4 ky4 m4 G4 bl4 bh4 q3 lqy HOWN
  go_upto_region 21 with fail
  rw [HV.out]
  clear HV d0 d1 d2 d3 d4 d5 d6 e0 e1 e2 e3 e4 e5 e6 z0 z1 z2 z3 z4 z5 z6 ly
  have q3 : _ = some (Value.slice (some ⟨gh, 0, none⟩) hs.length hcp) := KQV.out.cell 3
  have q0 : _ = some (Value.slice mA ms.length mc) := KQV.out.cell 0
  have fq3 := KQV.out.frozen 3
  have fq0 := KQV.out.frozen 0
  have lq := KQV.out.lt
  have kqU := (KQV.out.set_ 3 (.slice (some ⟨g4, 0, none⟩) hs.length c4')).set_ 0 (.slice A2 ms2.length c2')
  have krU := (KRV.out.far (p := ⟨w.heap.size, 3, none⟩) (by simp) (.slice (some ⟨g4, 0, none⟩) hs.length c4')).far (p := ⟨w.heap.size, 0, none⟩) (by simp) (.slice A2 ms2.length c2')
  have hys : w2.heap.size ≠ w.heap.size := by omega
  have kyU := (KYV.out.far (p := ⟨w.heap.size, 3, none⟩) hys (.slice (some ⟨g4, 0, none⟩) hs.length c4')).far (p := ⟨w.heap.size, 0, none⟩) hys (.slice A2 ms2.length c2')
  have gU := (grown_set (w := V) (g := w.heap.size) (i := 3) (.slice (some ⟨g4, 0, none⟩) hs.length c4')).trans (grown_set (.slice A2 ms2.length c2') (i := 0))
  have hAs : ∀ a : Addr, A2 = some a → a.block ≠ w.heap.size := fun a e => by have h := OB.out a.block (by rw [e]; rfl); have := HXS.out; have := HPs.out; have := RLW.out; omega
  have mU := MV.out.grown gU (fun a e e' => by injection e' with e'; exact hAs a e e')
  have oU := OV.out.grown gU (fun k hk a e => by injection hk with hk; injection e with e; subst hk e; show g4 ≠ w.heap.size; omega)
  have GU := GVV.out.grown gU (fun e => by injection e with e; exact hsb e.symm)
  have blU := (BLV.out.setCell (p := ⟨w.heap.size, 3, none⟩) (Nat.le_refl _) (.slice (some ⟨g4, 0, none⟩) hs.length c4')).setCell (p := ⟨w.heap.size, 0, none⟩) (Nat.le_refl _) (.slice A2 ms2.length c2')
  obtain ⟨U, hU⟩ : ∃ U, (V.setCell ⟨w.heap.size, 3, none⟩ (.slice (some ⟨g4, 0, none⟩) hs.length c4')).setCell ⟨w.heap.size, 0, none⟩ (.slice A2 ms2.length c2') = U := ⟨_, rfl⟩
  rw [hU] at kqU krU kyU mU oU GU blU
  have HU := Lib.hid hU
  have KQU := Lib.hid kqU
  have KRU := Lib.hid krU
  have KYU := Lib.hid kyU
  have MU := Lib.hid mU
  have OU := Lib.hid oU
  have GU' := Lib.hid GU
  have BLU := Lib.hid blU
  clear hU kqU krU kyU gU hAs mU oU GU blU OV KQV KRV KYV MV GVV BLV
  go_upto_region 23 with fail
  rw [HU.out]
  clear HU q3 q0 fq3 fq0 lq
  obtain ⟨z0, z1, z2, z3, z4, z5, z6⟩ := KYU.out.c7
  have ly := KYU.out.lt
  have kq : Bk U w.heap.size 49 #[.slice A2 ms2.length c2', .int .i64 0, .int .i64 cap, .slice (some ⟨g4, 0, none⟩) hs.length c4', .map (some b), .int .i64 nx, .int .i64 left, .bool false] := KQU.out
  have kr := KRU.out
  obtain ⟨x0, x1, x2, x3, x4, x5, x6, x7⟩ := kq.c8
  obtain ⟨y0, y1, y2, y3, y4, y5, y6, y7⟩ := kr.c8
  obtain ⟨g0, g1, g2, g3, g4', g5, g6, g7⟩ := kr.f8
  have lq := kq.lt
  have lr := kr.lt
  have K2 := Lib.hid (bk_set8 kr (.slice A2 ms2.length c2') (.int .i64 0) (.int .i64 cap) (.slice (some ⟨g4, 0, none⟩) hs.length c4') (.map (some b)) (.int .i64 nx) (.int .i64 left) (.bool false))
  have G8 := grown_set8 U (w.heap.size + 1) (.slice A2 ms2.length c2') (.int .i64 0) (.int .i64 cap) (.slice (some ⟨g4, 0, none⟩) hs.length c4') (.map (some b)) (.int .i64 nx) (.int .i64 left) (.bool false)
  have hA8 : ∀ a : Addr, A2 = some a → a.block ≠ w.heap.size + 1 := fun a e => by have h := OB.out a.block (by rw [e]; rfl); have := HXS.out; have := HPs.out; have := RLW.out; omega
  have M8 := Lib.hid (MU.out.grown G8 (fun a e e' => by injection e' with e'; exact hA8 a e e'))
  have O8 := Lib.hid (OU.out.grown G8 (fun k hk a e => by injection hk with hk; injection e with e; subst hk e; show g4 ≠ w.heap.size + 1; omega))
  have C8 := Lib.hid (GU'.out.grown G8 (fun e => by injection e with e; exact hrb e.symm))
  have B8 := Lib.hid (below_set8 BLU.out (by omega : w.heap.size ≤ w.heap.size + 1) (.slice A2 ms2.length c2') (.int .i64 0) (.int .i64 cap) (.slice (some ⟨g4, 0, none⟩) hs.length c4') (.map (some b)) (.int .i64 nx) (.int .i64 left) (.bool false))
  clear kq kr G8 hA8
  go_wp2
  obtain ⟨r0, r1, r2, r3, r4, r5, r6, r7⟩ := K2.out.c8
  unfold set8 at r0 r1 r2 r3 r4 r5 r6 r7
  exact bodyPost_ret (v := .agg #[.slice A2 ms2.length c2', .int .i64 0, .int .i64 cap, .slice (some ⟨g4, 0, none⟩) hs.length c4', .map (some b), .int .i64 nx, .int .i64 left, .bool false]) (by simp [results, Try.results20, go_sem, r0, r1, r2, r3, r4, r5, r6, r7]) rfl ⟨A2, c2', g4, c4', by unfold raceC; rw [List.length_set], ⟨M8.out, O8.out.base_ (Nat.zero_le _), C8.out⟩, Below.gb B8.out⟩

set_option maxHeartbeats 4000000 in
theorem stp_new_pop1 (mA : Option Addr) (mc : Nat) (ms : List Int) (gh hcp : Nat) (hs : List Hd) (b n : Nat) (G : Int → Nat) (cap nx left lf who : Nat) (w : World) (R : RcI w mA ms gh hs b n G) (hw : who < hs.length) (hl : hs.length ≤ 10) (hq : MayQ ms.length 0 cap)
    (k p v t bb : Int) (wn : Bool) (s : Int) (hh : hth hs who = ⟨k, p, v, t, bb, wn, s⟩) (hk : k ≠ 0) (hsx : s ≠ 0) (hw0 : who = 0) (hlf : lf = left + 1) (hlb : left < 1000) (ms2 : List Int) (k2 p2 v2 t2 b2 : Int) (wn2 : Bool) (ha : accF ms 0 cap ⟨2, 0, 0, 0, 0, false, 0⟩ = some (ms2, ⟨k2, p2, v2, t2, b2, wn2, 0⟩)) :
    Calls Try.prog 20 #[.agg #[.slice mA ms.length mc, .int .i64 0, .int .i64 cap, .slice (some ⟨gh, 0, none⟩) hs.length hcp, .map (some b), .int .i64 nx, .int .i64 lf, .bool false], .int .i64 who, .bool true] w (StpOf cap b n w ms2 (hs.set who ⟨k2, p2, v2, t2, b2, wn2, 0⟩) G nx left) := by
  have k0 := (Bk.new w 49 #[.slice mA ms.length mc, .int .i64 0, .int .i64 cap, .slice (some ⟨gh, 0, none⟩) hs.length hcp, .map (some b), .int .i64 nx, .int .i64 lf, .bool false]).alloc (.cells #[.slice none 0 0, .int .i64 0, .int .i64 0, .slice none 0 0, .map none, .int .i64 0, .int .i64 0, .bool false] 49)
  have k1 := Bk.new (w.alloc (.cells #[.slice mA ms.length mc, .int .i64 0, .int .i64 cap, .slice (some ⟨gh, 0, none⟩) hs.length hcp, .map (some b), .int .i64 nx, .int .i64 lf, .bool false] 49)) 49 #[.slice none 0 0, .int .i64 0, .int .i64 0, .slice none 0 0, .map none, .int .i64 0, .int .i64 0, .bool false]
  rw [size_alloc] at k1
  have bl := two_boxes w #[.slice mA ms.length mc, .int .i64 0, .int .i64 cap, .slice (some ⟨gh, 0, none⟩) hs.length hcp, .map (some b), .int .i64 nx, .int .i64 lf, .bool false] #[.slice none 0 0, .int .i64 0, .int .i64 0, .slice none 0 0, .map none, .int .i64 0, .int .i64 0, .bool false] 49 49
  have hWs : ((w.alloc (.cells #[.slice mA ms.length mc, .int .i64 0, .int .i64 cap, .slice (some ⟨gh, 0, none⟩) hs.length hcp, .map (some b), .int .i64 nx, .int .i64 lf, .bool false] 49)).alloc (.cells #[.slice none 0 0, .int .i64 0, .int .i64 0, .slice none 0 0, .map none, .int .i64 0, .int .i64 0, .bool false] 49)).heap.size = w.heap.size + 2 := by simp
  obtain ⟨W, hW⟩ : ∃ W, (w.alloc (.cells #[.slice mA ms.length mc, .int .i64 0, .int .i64 cap, .slice (some ⟨gh, 0, none⟩) hs.length hcp, .map (some b), .int .i64 nx, .int .i64 lf, .bool false] 49)).alloc (.cells #[.slice none 0 0, .int .i64 0, .int .i64 0, .slice none 0 0, .map none, .int .i64 0, .int .i64 0, .bool false] 49) = W := ⟨_, rfl⟩
  rw [hW] at k0 k1 bl hWs
  have HW := Lib.hid hW
  have BLW := Lib.hid bl
  have RLW : Hid (w.heap.size + 1 < W.heap.size) := Lib.hid k1.lt
  have R0 := R.below bl
  have hkb : (k == 0) = false := by simpa using hk
  have hsb0 : (s == 0) = false := by simpa using hsx
  have hsb1 : (s != 0) = true := by simpa using hsx
  have hwb : ((who : Int) == 0) = true := by simp; exact hw0
  have hlz : ((lf : Int) == 0) = false := by subst hlf; simp; omega
  have hlw : IntKind.i64.wrap ((lf : Int) - 1) = (left : Int) := by subst hlf; rw [IntKind.wrap_i64]; omega
  skip
  have ha7 := (R0.h.at_ hw).1
  rw [hh] at ha7
  have c0 : _ = some (Value.int .i64 k) := ha7 0 (by omega)
  have c1 : _ = some (Value.int .i64 p) := ha7 1 (by omega)
  have c2 : _ = some (Value.int .i64 v) := ha7 2 (by omega)
  have c3 : _ = some (Value.int .i64 t) := ha7 3 (by omega)
  have c4 : _ = some (Value.int .i64 bb) := ha7 4 (by omega)
  have c5 : _ = some (Value.bool wn) := ha7 5 (by omega)
  have c6 : _ = some (Value.int .i64 s) := ha7 6 (by omega)
  rw [Nat.add_zero] at c0
  have x3 : _ = some (Value.slice (some ⟨gh, 0, none⟩) hs.length hcp) := k0.cell 3
  have ls := k0.lt
  obtain ⟨gh', eg, -, lgh⟩ := R0.h.form
  obtain rfl : gh = gh' := by injection eg with eg; injection eg
  have ba := (Below.refl W.heap.size W).alloc (Nat.le_refl _) (.cells #[.int .i64 k, .int .i64 p, .int .i64 v, .int .i64 t, .int .i64 bb, .bool wn, .int .i64 s] 27)
  have hAs : (W.alloc (.cells #[.int .i64 k, .int .i64 p, .int .i64 v, .int .i64 t, .int .i64 bb, .bool wn, .int .i64 s] 27)).heap.size = W.heap.size + 1 := by simp
  have k0a := k0.below ba k0.lt
  have k1a := k1.below ba k1.lt
  have bla := below3 bl ba
  have y5 : _ = some (Value.int .i64 lf) := k0a.cell 6
  have f5 := k0a.frozen 6
  have lsa := k0a.lt
  have k0p := k0.set_ 6 (.int .i64 left)
  have k1p := k1.far (p := ⟨w.heap.size, 6, none⟩) (by simp) (.int .i64 left)
  have blp := bl.setCell (p := ⟨w.heap.size, 6, none⟩) (Nat.le_refl _) (.int .i64 left)
  have bap := (Below.refl (W.setCell ⟨w.heap.size, 6, none⟩ (.int .i64 left)).heap.size (W.setCell ⟨w.heap.size, 6, none⟩ (.int .i64 left))).alloc (Nat.le_refl _) (.cells #[.int .i64 k, .int .i64 p, .int .i64 v, .int .i64 t, .int .i64 bb, .bool wn, .int .i64 s] 27)
  have khp := Bk.new (W.setCell ⟨w.heap.size, 6, none⟩ (.int .i64 left)) 27 #[.int .i64 k, .int .i64 p, .int .i64 v, .int .i64 t, .int .i64 bb, .bool wn, .int .i64 s]
  simp only [World.size_setCell] at khp
  have k0p := k0p.below bap k0p.lt
  have k1p := k1p.below bap k1p.lt
  have blp := below3 blp bap
  have hPs : ((W.setCell ⟨w.heap.size, 6, none⟩ (.int .i64 left)).alloc (.cells #[.int .i64 k, .int .i64 p, .int .i64 v, .int .i64 t, .int .i64 bb, .bool wn, .int .i64 s] 27)).heap.size = W.heap.size + 1 := by simp
  obtain ⟨P, hP⟩ : ∃ P, ((W.setCell ⟨w.heap.size, 6, none⟩ (.int .i64 left)).alloc (.cells #[.int .i64 k, .int .i64 p, .int .i64 v, .int .i64 t, .int .i64 bb, .bool wn, .int .i64 s] 27)) = P := ⟨_, rfl⟩
  rw [hP] at k0p k1p khp blp hPs
  have HP := Lib.hid hP
  have KQP := Lib.hid k0p
  have KRP := Lib.hid k1p
  have KHP := Lib.hid khp
  have BLP := Lib.hid blp
  have HPs := Lib.hid hPs
  have RH := Lib.hid R
  have hm : MayH ⟨2, 0, 0, 0, 0, false, 0⟩ := may_new (kind := 2) (v := 0) (by omega)
  have HST := Lib.hid (fun X (hx : Ints X mA ms.length ms) => step_any mA ms.length mc 0 cap ms ⟨2, 0, 0, 0, 0, false, 0⟩ X hx (by unfold Fit; omega) ⟨by omega, by have := hq.2.2.1; omega⟩ (HdF.of_may hm fit0))
  have hsf : stepF ms 0 cap ⟨2, 0, 0, 0, 0, false, 0⟩ = (0, ms2, ⟨k2, p2, v2, t2, b2, wn2, 0⟩) := by
    unfold stepF
    rw [if_pos ⟨hm, hq⟩, if_pos rfl, Int.toNat_natCast, show (0 : Int).toNat = 0 from rfl, ha]
  rw [hsf] at HST
  unfold hv at HST
  have HS0 := Lib.hid (fun w => start2_any 2 0 w (by unfold Fit; omega))
  have hpc : 0 < pcsF 2 := by decide
  simp only [if_pos hpc] at HS0
  unfold newH hv at HS0
  have HH := Lib.hid hh
  have HL := Lib.hid hl
  clear hW k0 k1 bl hWs R0 ha7 ba hAs k0a k1a bla bap k0p k1p khp blp hP hPs hm hsf hk ha R eg hh hw0 hlf hlb hpc hsx
  go_enter Try.func20, Try.ntmps20
  go_upto_region 1 with fail
  rw [HW.out]
  clear HW
  go_upto_region 14 with fail
  rw [HP.out]
  clear HP c0 c1 c2 c3 c4 c5 c6 x3 ls lgh y5 f5 lsa
  go_wp2_with fail
  refine (HS0.out _).mono ?_
  rintro e wS ⟨rfl, bS⟩
  have kqS := KQP.out.below bS KQP.out.lt
  have krS := KRP.out.below bS KRP.out.lt
  have khS := KHP.out.below bS KHP.out.lt
  have blS := below3 BLP.out bS
  obtain ⟨z0, z1, z2, z3, z4, z5, z6⟩ := khS.c7
  obtain ⟨e0, e1, e2, e3, e4, e5, e6⟩ := khS.f7
  have lz := khS.lt
  have hgW : W.heap.size ≠ w.heap.size := by have := RLW.out; omega
  have hgW1 : W.heap.size ≠ w.heap.size + 1 := by have := RLW.out; omega
  have kqX := kqS.far7 (Ne.symm hgW) (.int .i64 2) (.int .i64 0) (.int .i64 0) (.int .i64 0) (.int .i64 0) (.bool false) (.int .i64 0)
  have krX := krS.far7 (Ne.symm hgW1) (.int .i64 2) (.int .i64 0) (.int .i64 0) (.int .i64 0) (.int .i64 0) (.bool false) (.int .i64 0)
  have khX := bk_set7 khS (.int .i64 2) (.int .i64 0) (.int .i64 0) (.int .i64 0) (.int .i64 0) (.bool false) (.int .i64 0)
  have blX := below_set7 blS (by have := RLW.out; omega : w.heap.size ≤ W.heap.size) (.int .i64 2) (.int .i64 0) (.int .i64 0) (.int .i64 0) (.int .i64 0) (.bool false) (.int .i64 0)
  have hXs : P.heap.size ≤ (set7 wS W.heap.size (.int .i64 2) (.int .i64 0) (.int .i64 0) (.int .i64 0) (.int .i64 0) (.bool false) (.int .i64 0)).heap.size := by unfold set7; simp only [World.size_setCell]; exact bS.size
  obtain ⟨X, hX⟩ : ∃ X, set7 wS W.heap.size (.int .i64 2) (.int .i64 0) (.int .i64 0) (.int .i64 0) (.int .i64 0) (.bool false) (.int .i64 0) = X := ⟨_, rfl⟩
  rw [hX] at kqX krX khX blX hXs
  unfold set7 at hX
  have HX := Lib.hid hX
  have KA := Lib.hid kqX
  have K1A := Lib.hid krX
  have KHX := Lib.hid khX
  have BLA := Lib.hid blX
  have HXS := Lib.hid hXs
  have RA := Lib.hid (RH.out.below blX)
  clear hX kqX krX khX blX hXs kqS krS khS blS bS hgW hgW1 KQP KRP KHP BLP
  go_upto_region 15 with fail
  rw [HX.out]
  clear HX z0 z1 z2 z3 z4 z5 z6 e0 e1 e2 e3 e4 e5 e6 lz
  have y0 : _ = some (Value.slice mA ms.length mc) := KA.out.cell 0
  have y1 : _ = some (Value.int .i64 0) := KA.out.cell 1
  have y2 : _ = some (Value.int .i64 cap) := KA.out.cell 2
  have lsa := KA.out.lt
  obtain ⟨z0, z1, z2, z3, z4, z5, z6⟩ := KHX.out.c7
  have lz := KHX.out.lt
  go_wp2_with fail
  refine (HST.out _ RA.out.m).mono ?_
  rintro e w2 ⟨A2, c2', rfl, o2, b2'⟩
  have kq := KA.out.below b2' KA.out.lt
  have kr := K1A.out.below b2' K1A.out.lt
  have R2 := RA.out.below b2'
  have bl2 := below3 BLA.out b2'
  have ky := Bk.new w2 27 #[.int .i64 k2, .int .i64 p2, .int .i64 v2, .int .i64 t2, .int .i64 b2, .bool wn2, .int .i64 0]
  have bb2 := (Below.refl w2.heap.size w2).alloc (Nat.le_refl _) (.cells #[.int .i64 k2, .int .i64 p2, .int .i64 v2, .int .i64 t2, .int .i64 b2, .bool wn2, .int .i64 0] 27)
  have hw23 : (w2.alloc (.cells #[.int .i64 k2, .int .i64 p2, .int .i64 v2, .int .i64 t2, .int .i64 b2, .bool wn2, .int .i64 0] 27)).heap.size = w2.heap.size + 1 := by simp
  have kqy := kq.below bb2 kq.lt
  have hsw : w.heap.size + 1 < w2.heap.size := kr.lt
  have kry := kr.below bb2 kr.lt
  have Ry := R2.below bb2
  have oy := o2.below bb2
  have bly := below3 bl2 bb2
  have q3 : _ = some (Value.slice (some ⟨gh, 0, none⟩) hs.length hcp) := kqy.cell 3
  have lqy := kqy.lt
  have HOWN := Lib.hid Ry.h
  have KQ := Lib.hid kqy
  have KR := Lib.hid kry
  have KY := Lib.hid ky
  have OY := Lib.hid oy.ints
  have OB := Lib.hid (oy.block (n := 0) (d := 0))
  have ol2 : ∀ a : Addr, A2 = some a → a.block < (w2.alloc (.cells #[.int .i64 k2, .int .i64 p2, .int .i64 v2, .int .i64 t2, .int .i64 b2, .bool wn2, .int .i64 0] 27)).heap.size := fun a e => by subst e; exact (oy.2.2.lt a.block rfl).2
  have OL := Lib.hid ol2
  have GY := Lib.hid Ry.g
  have AB := Lib.hid (oy.ne_map Ry.g)
  have BY := Lib.hid bly
  have h0 : 0 < hs.length := by omega
  have hl10 : hs.length ≤ 1000 := by have := HL.out; omega
  clear z0 z1 z2 z3 z4 z5 z6 lz y0 y1 y2 lsa kq kr R2 bl2 ky bb2 kqy kry Ry oy ol2 bly o2 b2' KA K1A RA BLA
  simp only [hv]
  go_upto_region 20 with (at_builtin; go_loud (refine wpList_copyH _ rfl _ _ rfl rfl 0 gh hcp hs.length hs rfl rfl rfl HOWN.out h0 hl10 ?_; intro A4 c4' w4 oh4 bh4; obtain ⟨g4, rfl, hg4, hg4l⟩ := oh4.form; have kq4 := KQ.out.below bh4 KQ.out.lt; have kr4 := KR.out.below bh4 KR.out.lt; have ky4 := KY.out.below bh4 KY.out.lt; have m4 := OY.out.below bh4; have G4 := GY.out.below bh4; have bl4 := below3 BY.out bh4; rw [hw23] at hg4; have hbne : ∀ a, A2 = some a → a.block ≠ g4 := fun a e => by have := OL.out a e; omega))
  have hyb : w2.heap.size ≠ b := G4.ne_bk ky4
  have hbg : g4 ≠ b := by obtain ⟨gg, cs, e, -, hk, -, -⟩ := oh4; injection e with e; injection e with e _ _; subst e; exact G4.ne_bk hk
  have hsb : w.heap.size ≠ b := G4.ne_bk kq4
  have hrb : w.heap.size + 1 ≠ b := G4.ne_bk kr4
  obtain ⟨d7, fz⟩ := oh4.at_ hw
  rw [HH.out] at d7
  have d0 : _ = some (Value.int .i64 k) := d7 0 (by omega)
  have d1 : _ = some (Value.int .i64 p) := d7 1 (by omega)
  have d2 : _ = some (Value.int .i64 v) := d7 2 (by omega)
  have d3 : _ = some (Value.int .i64 t) := d7 3 (by omega)
  have d4 : _ = some (Value.int .i64 bb) := d7 4 (by omega)
  have d5 : _ = some (Value.bool wn) := d7 5 (by omega)
  have d6 : _ = some (Value.int .i64 s) := d7 6 (by omega)
  rw [Nat.add_zero] at d0
  have e0 := fz (who * 7)
  have e1 := fz (who * 7 + 1)
  have e2 := fz (who * 7 + 2)
  have e3 := fz (who * 7 + 3)
  have e4 := fz (who * 7 + 4)
  have e5 := fz (who * 7 + 5)
  have e6 := fz (who * 7 + 6)
  obtain ⟨z0, z1, z2, z3, z4, z5, z6⟩ := ky4.c7
  have ly := ky4.lt
  have oV := oh4.put hw ⟨k2, p2, v2, t2, b2, wn2, 0⟩
  have kqV := Bk.far7a (o := who * 7) kq4 (by omega : w.heap.size ≠ g4) (.int .i64 k2) (.int .i64 p2) (.int .i64 v2) (.int .i64 t2) (.int .i64 b2) (.bool wn2) (.int .i64 0)
  have krV := Bk.far7a (o := who * 7) kr4 (by omega : w.heap.size + 1 ≠ g4) (.int .i64 k2) (.int .i64 p2) (.int .i64 v2) (.int .i64 t2) (.int .i64 b2) (.bool wn2) (.int .i64 0)
  have kyV := Bk.far7a (o := who * 7) ky4 (by omega : w2.heap.size ≠ g4) (.int .i64 k2) (.int .i64 p2) (.int .i64 v2) (.int .i64 t2) (.int .i64 b2) (.bool wn2) (.int .i64 0)
  have gV := grown_set7a w4 g4 (who * 7) (.int .i64 k2) (.int .i64 p2) (.int .i64 v2) (.int .i64 t2) (.int .i64 b2) (.bool wn2) (.int .i64 0)
  have mV := m4.grown gV (fun a e e' => by injection e' with e'; exact hbne a e e')
  have GV := G4.grown gV (fun e => by injection e with e; exact hbg e.symm)
  have blV := below_set7a bl4 (by omega : w.heap.size ≤ g4) (who * 7) (.int .i64 k2) (.int .i64 p2) (.int .i64 v2) (.int .i64 t2) (.int .i64 b2) (.bool wn2) (.int .i64 0)
  simp only at oV
  obtain ⟨V, hV⟩ : ∃ V, set7a w4 g4 (who * 7) (.int .i64 k2) (.int .i64 p2) (.int .i64 v2) (.int .i64 t2) (.int .i64 b2) (.bool wn2) (.int .i64 0) = V := ⟨_, rfl⟩
  rw [hV] at oV kqV krV kyV mV GV blV
  unfold set7a at hV
  have HV := Lib.hid hV
  have OV := Lib.hid oV
  have KQV := Lib.hid kqV
  have KRV := Lib.hid krV
  have KYV := Lib.hid kyV
  have MV := Lib.hid mV
  have GVV := Lib.hid GV
  have BLV := Lib.hid blV
  clear hV d7 fz oV kqV krV kyV gV mV GV blV oh4 kq4 kr4 ky4 m4 G4 bl4 bh4 q3 lqy HOWN
  go_upto_region 21 with fail
  rw [HV.out]
  clear HV d0 d1 d2 d3 d4 d5 d6 e0 e1 e2 e3 e4 e5 e6 z0 z1 z2 z3 z4 z5 z6 ly
  have q3 : _ = some (Value.slice (some ⟨gh, 0, none⟩) hs.length hcp) := KQV.out.cell 3
  have q0 : _ = some (Value.slice mA ms.length mc) := KQV.out.cell 0
  have fq3 := KQV.out.frozen 3
  have fq0 := KQV.out.frozen 0
  have lq := KQV.out.lt
  have kqU := (KQV.out.set_ 3 (.slice (some ⟨g4, 0, none⟩) hs.length c4')).set_ 0 (.slice A2 ms2.length c2')
  have krU := (KRV.out.far (p := ⟨w.heap.size, 3, none⟩) (by simp) (.slice (some ⟨g4, 0, none⟩) hs.length c4')).far (p := ⟨w.heap.size, 0, none⟩) (by simp) (.slice A2 ms2.length c2')
  have hys : w2.heap.size ≠ w.heap.size := by omega
  have kyU := (KYV.out.far (p := ⟨w.heap.size, 3, none⟩) hys (.slice (some ⟨g4, 0, none⟩) hs.length c4')).far (p := ⟨w.heap.size, 0, none⟩) hys (.slice A2 ms2.length c2')
  have gU := (grown_set (w := V) (g := w.heap.size) (i := 3) (.slice (some ⟨g4, 0, none⟩) hs.length c4')).trans (grown_set (.slice A2 ms2.length c2') (i := 0))
  have hAs : ∀ a : Addr, A2 = some a → a.block ≠ w.heap.size := fun a e => by have h := OB.out a.block (by rw [e]; rfl); have := HXS.out; have := HPs.out; have := RLW.out; omega
  have mU := MV.out.grown gU (fun a e e' => by injection e' with e'; exact hAs a e e')
  have oU := OV.out.grown gU (fun k hk a e => by injection hk with hk; injection e with e; subst hk e; show g4 ≠ w.heap.size; omega)
  have GU := GVV.out.grown gU (fun e => by injection e with e; exact hsb e.symm)
  have blU := (BLV.out.setCell (p := ⟨w.heap.size, 3, none⟩) (Nat.le_refl _) (.slice (some ⟨g4, 0, none⟩) hs.length c4')).setCell (p := ⟨w.heap.size, 0, none⟩) (Nat.le_refl _) (.slice A2 ms2.length c2')
  obtain ⟨U, hU⟩ : ∃ U, (V.setCell ⟨w.heap.size, 3, none⟩ (.slice (some ⟨g4, 0, none⟩) hs.length c4')).setCell ⟨w.heap.size, 0, none⟩ (.slice A2 ms2.length c2') = U := ⟨_, rfl⟩
  rw [hU] at kqU krU kyU mU oU GU blU
  have HU := Lib.hid hU
  have KQU := Lib.hid kqU
  have KRU := Lib.hid krU
  have KYU := Lib.hid kyU
  have MU := Lib.hid mU
  have OU := Lib.hid oU
  have GU' := Lib.hid GU
  have BLU := Lib.hid blU
  clear hU kqU krU kyU gU hAs mU oU GU blU OV KQV KRV KYV MV GVV BLV
  go_upto_region 23 with fail
  rw [HU.out]
  clear HU q3 q0 fq3 fq0 lq
  obtain ⟨z0, z1, z2, z3, z4, z5, z6⟩ := KYU.out.c7
  have ly := KYU.out.lt
  have kq : Bk U w.heap.size 49 #[.slice A2 ms2.length c2', .int .i64 0, .int .i64 cap, .slice (some ⟨g4, 0, none⟩) hs.length c4', .map (some b), .int .i64 nx, .int .i64 left, .bool false] := KQU.out
  have kr := KRU.out
  obtain ⟨x0, x1, x2, x3, x4, x5, x6, x7⟩ := kq.c8
  obtain ⟨y0, y1, y2, y3, y4, y5, y6, y7⟩ := kr.c8
  obtain ⟨g0, g1, g2, g3, g4', g5, g6, g7⟩ := kr.f8
  have lq := kq.lt
  have lr := kr.lt
  have K2 := Lib.hid (bk_set8 kr (.slice A2 ms2.length c2') (.int .i64 0) (.int .i64 cap) (.slice (some ⟨g4, 0, none⟩) hs.length c4') (.map (some b)) (.int .i64 nx) (.int .i64 left) (.bool false))
  have G8 := grown_set8 U (w.heap.size + 1) (.slice A2 ms2.length c2') (.int .i64 0) (.int .i64 cap) (.slice (some ⟨g4, 0, none⟩) hs.length c4') (.map (some b)) (.int .i64 nx) (.int .i64 left) (.bool false)
  have hA8 : ∀ a : Addr, A2 = some a → a.block ≠ w.heap.size + 1 := fun a e => by have h := OB.out a.block (by rw [e]; rfl); have := HXS.out; have := HPs.out; have := RLW.out; omega
  have M8 := Lib.hid (MU.out.grown G8 (fun a e e' => by injection e' with e'; exact hA8 a e e'))
  have O8 := Lib.hid (OU.out.grown G8 (fun k hk a e => by injection hk with hk; injection e with e; subst hk e; show g4 ≠ w.heap.size + 1; omega))
  have C8 := Lib.hid (GU'.out.grown G8 (fun e => by injection e with e; exact hrb e.symm))
  have B8 := Lib.hid (below_set8 BLU.out (by omega : w.heap.size ≤ w.heap.size + 1) (.slice A2 ms2.length c2') (.int .i64 0) (.int .i64 cap) (.slice (some ⟨g4, 0, none⟩) hs.length c4') (.map (some b)) (.int .i64 nx) (.int .i64 left) (.bool false))
  clear kq kr G8 hA8
  go_wp2
  obtain ⟨r0, r1, r2, r3, r4, r5, r6, r7⟩ := K2.out.c8
  unfold set8 at r0 r1 r2 r3 r4 r5 r6 r7
  exact bodyPost_ret (v := .agg #[.slice A2 ms2.length c2', .int .i64 0, .int .i64 cap, .slice (some ⟨g4, 0, none⟩) hs.length c4', .map (some b), .int .i64 nx, .int .i64 left, .bool false]) (by simp [results, Try.results20, go_sem, r0, r1, r2, r3, r4, r5, r6, r7]) rfl ⟨A2, c2', g4, c4', by unfold raceC; rw [List.length_set], ⟨M8.out, O8.out.base_ (Nat.zero_le _), C8.out⟩, Below.gb B8.out⟩

set_option maxHeartbeats 4000000 in
theorem stp_new_steal0 (mA : Option Addr) (mc : Nat) (ms : List Int) (gh hcp : Nat) (hs : List Hd) (b n : Nat) (G : Int → Nat) (cap nx left lf who : Nat) (pops : Bool) (w : World) (R : RcI w mA ms gh hs b n G) (hw : who < hs.length) (hl : hs.length ≤ 10) (hq : MayQ ms.length 0 cap)
    (k p v t bb : Int) (wn : Bool) (s : Int) (hh : hth hs who = ⟨k, p, v, t, bb, wn, s⟩) (hk : k = 0) (hw0 : who ≠ 0) (hlf : lf = left + 1) (hlb : left < 1000) (ms2 : List Int) (k2 p2 v2 t2 b2 : Int) (wn2 : Bool) (ha : accF ms 0 cap ⟨3, 0, 0, 0, 0, false, 0⟩ = some (ms2, ⟨k2, p2, v2, t2, b2, wn2, 0⟩)) :
    Calls Try.prog 20 #[.agg #[.slice mA ms.length mc, .int .i64 0, .int .i64 cap, .slice (some ⟨gh, 0, none⟩) hs.length hcp, .map (some b), .int .i64 nx, .int .i64 lf, .bool false], .int .i64 who, .bool pops] w (StpOf cap b n w ms2 (hs.set who ⟨k2, p2, v2, t2, b2, wn2, 0⟩) G nx left) := by
  have k0 := (Bk.new w 49 #[.slice mA ms.length mc, .int .i64 0, .int .i64 cap, .slice (some ⟨gh, 0, none⟩) hs.length hcp, .map (some b), .int .i64 nx, .int .i64 lf, .bool false]).alloc (.cells #[.slice none 0 0, .int .i64 0, .int .i64 0, .slice none 0 0, .map none, .int .i64 0, .int .i64 0, .bool false] 49)
  have k1 := Bk.new (w.alloc (.cells #[.slice mA ms.length mc, .int .i64 0, .int .i64 cap, .slice (some ⟨gh, 0, none⟩) hs.length hcp, .map (some b), .int .i64 nx, .int .i64 lf, .bool false] 49)) 49 #[.slice none 0 0, .int .i64 0, .int .i64 0, .slice none 0 0, .map none, .int .i64 0, .int .i64 0, .bool false]
  rw [size_alloc] at k1
  have bl := two_boxes w #[.slice mA ms.length mc, .int .i64 0, .int .i64 cap, .slice (some ⟨gh, 0, none⟩) hs.length hcp, .map (some b), .int .i64 nx, .int .i64 lf, .bool false] #[.slice none 0 0, .int .i64 0, .int .i64 0, .slice none 0 0, .map none, .int .i64 0, .int .i64 0, .bool false] 49 49
  have hWs : ((w.alloc (.cells #[.slice mA ms.length mc, .int .i64 0, .int .i64 cap, .slice (some ⟨gh, 0, none⟩) hs.length hcp, .map (some b), .int .i64 nx, .int .i64 lf, .bool false] 49)).alloc (.cells #[.slice none 0 0, .int .i64 0, .int .i64 0, .slice none 0 0, .map none, .int .i64 0, .int .i64 0, .bool false] 49)).heap.size = w.heap.size + 2 := by simp
  obtain ⟨W, hW⟩ : ∃ W, (w.alloc (.cells #[.slice mA ms.length mc, .int .i64 0, .int .i64 cap, .slice (some ⟨gh, 0, none⟩) hs.length hcp, .map (some b), .int .i64 nx, .int .i64 lf, .bool false] 49)).alloc (.cells #[.slice none 0 0, .int .i64 0, .int .i64 0, .slice none 0 0, .map none, .int .i64 0, .int .i64 0, .bool false] 49) = W := ⟨_, rfl⟩
  rw [hW] at k0 k1 bl hWs
  have HW := Lib.hid hW
  have BLW := Lib.hid bl
  have RLW : Hid (w.heap.size + 1 < W.heap.size) := Lib.hid k1.lt
  have R0 := R.below bl
  have hkb : (k == 0) = true := by simpa using hk
  have hwb : ((who : Int) == 0) = false := by simp; exact hw0
  have hlz : ((lf : Int) == 0) = false := by subst hlf; simp; omega
  have hlw : IntKind.i64.wrap ((lf : Int) - 1) = (left : Int) := by subst hlf; rw [IntKind.wrap_i64]; omega
  skip
  have ha7 := (R0.h.at_ hw).1
  rw [hh] at ha7
  have c0 : _ = some (Value.int .i64 k) := ha7 0 (by omega)
  have c1 : _ = some (Value.int .i64 p) := ha7 1 (by omega)
  have c2 : _ = some (Value.int .i64 v) := ha7 2 (by omega)
  have c3 : _ = some (Value.int .i64 t) := ha7 3 (by omega)
  have c4 : _ = some (Value.int .i64 bb) := ha7 4 (by omega)
  have c5 : _ = some (Value.bool wn) := ha7 5 (by omega)
  have c6 : _ = some (Value.int .i64 s) := ha7 6 (by omega)
  rw [Nat.add_zero] at c0
  have x3 : _ = some (Value.slice (some ⟨gh, 0, none⟩) hs.length hcp) := k0.cell 3
  have ls := k0.lt
  obtain ⟨gh', eg, -, lgh⟩ := R0.h.form
  obtain rfl : gh = gh' := by injection eg with eg; injection eg
  have ba := (Below.refl W.heap.size W).alloc (Nat.le_refl _) (.cells #[.int .i64 k, .int .i64 p, .int .i64 v, .int .i64 t, .int .i64 bb, .bool wn, .int .i64 s] 27)
  have hAs : (W.alloc (.cells #[.int .i64 k, .int .i64 p, .int .i64 v, .int .i64 t, .int .i64 bb, .bool wn, .int .i64 s] 27)).heap.size = W.heap.size + 1 := by simp
  have k0a := k0.below ba k0.lt
  have k1a := k1.below ba k1.lt
  have bla := below3 bl ba
  have y5 : _ = some (Value.int .i64 lf) := k0a.cell 6
  have f5 := k0a.frozen 6
  have lsa := k0a.lt
  have k0p := k0.set_ 6 (.int .i64 left)
  have k1p := k1.far (p := ⟨w.heap.size, 6, none⟩) (by simp) (.int .i64 left)
  have blp := bl.setCell (p := ⟨w.heap.size, 6, none⟩) (Nat.le_refl _) (.int .i64 left)
  have bap := (Below.refl (W.setCell ⟨w.heap.size, 6, none⟩ (.int .i64 left)).heap.size (W.setCell ⟨w.heap.size, 6, none⟩ (.int .i64 left))).alloc (Nat.le_refl _) (.cells #[.int .i64 k, .int .i64 p, .int .i64 v, .int .i64 t, .int .i64 bb, .bool wn, .int .i64 s] 27)
  have khp := Bk.new (W.setCell ⟨w.heap.size, 6, none⟩ (.int .i64 left)) 27 #[.int .i64 k, .int .i64 p, .int .i64 v, .int .i64 t, .int .i64 bb, .bool wn, .int .i64 s]
  simp only [World.size_setCell] at khp
  have k0p := k0p.below bap k0p.lt
  have k1p := k1p.below bap k1p.lt
  have blp := below3 blp bap
  have hPs : ((W.setCell ⟨w.heap.size, 6, none⟩ (.int .i64 left)).alloc (.cells #[.int .i64 k, .int .i64 p, .int .i64 v, .int .i64 t, .int .i64 bb, .bool wn, .int .i64 s] 27)).heap.size = W.heap.size + 1 := by simp
  obtain ⟨P, hP⟩ : ∃ P, ((W.setCell ⟨w.heap.size, 6, none⟩ (.int .i64 left)).alloc (.cells #[.int .i64 k, .int .i64 p, .int .i64 v, .int .i64 t, .int .i64 bb, .bool wn, .int .i64 s] 27)) = P := ⟨_, rfl⟩
  rw [hP] at k0p k1p khp blp hPs
  have HP := Lib.hid hP
  have KQP := Lib.hid k0p
  have KRP := Lib.hid k1p
  have KHP := Lib.hid khp
  have BLP := Lib.hid blp
  have HPs := Lib.hid hPs
  have RH := Lib.hid R
  have hm : MayH ⟨3, 0, 0, 0, 0, false, 0⟩ := may_new (kind := 3) (v := 0) (by omega)
  have HST := Lib.hid (fun X (hx : Ints X mA ms.length ms) => step_any mA ms.length mc 0 cap ms ⟨3, 0, 0, 0, 0, false, 0⟩ X hx (by unfold Fit; omega) ⟨by omega, by have := hq.2.2.1; omega⟩ (HdF.of_may hm fit0))
  have hsf : stepF ms 0 cap ⟨3, 0, 0, 0, 0, false, 0⟩ = (0, ms2, ⟨k2, p2, v2, t2, b2, wn2, 0⟩) := by
    unfold stepF
    rw [if_pos ⟨hm, hq⟩, if_pos rfl, Int.toNat_natCast, show (0 : Int).toNat = 0 from rfl, ha]
  rw [hsf] at HST
  unfold hv at HST
  have HS0 := Lib.hid (fun w => start2_any 3 0 w (by unfold Fit; omega))
  have hpc : 0 < pcsF 3 := by decide
  simp only [if_pos hpc] at HS0
  unfold newH hv at HS0
  have HH := Lib.hid hh
  have HL := Lib.hid hl
  clear hW k0 k1 bl hWs R0 ha7 ba hAs k0a k1a bla bap k0p k1p khp blp hP hPs hm hsf hk ha R eg hh hw0 hlf hlb hpc
  go_enter Try.func20, Try.ntmps20
  go_upto_region 1 with fail
  rw [HW.out]
  clear HW
  go_upto_region 14 with fail
  rw [HP.out]
  clear HP c0 c1 c2 c3 c4 c5 c6 x3 ls lgh y5 f5 lsa
  go_wp2_with fail
  refine (HS0.out _).mono ?_
  rintro e wS ⟨rfl, bS⟩
  have kqS := KQP.out.below bS KQP.out.lt
  have krS := KRP.out.below bS KRP.out.lt
  have khS := KHP.out.below bS KHP.out.lt
  have blS := below3 BLP.out bS
  obtain ⟨z0, z1, z2, z3, z4, z5, z6⟩ := khS.c7
  obtain ⟨e0, e1, e2, e3, e4, e5, e6⟩ := khS.f7
  have lz := khS.lt
  have hgW : W.heap.size ≠ w.heap.size := by have := RLW.out; omega
  have hgW1 : W.heap.size ≠ w.heap.size + 1 := by have := RLW.out; omega
  have kqX := kqS.far7 (Ne.symm hgW) (.int .i64 3) (.int .i64 0) (.int .i64 0) (.int .i64 0) (.int .i64 0) (.bool false) (.int .i64 0)
  have krX := krS.far7 (Ne.symm hgW1) (.int .i64 3) (.int .i64 0) (.int .i64 0) (.int .i64 0) (.int .i64 0) (.bool false) (.int .i64 0)
  have khX := bk_set7 khS (.int .i64 3) (.int .i64 0) (.int .i64 0) (.int .i64 0) (.int .i64 0) (.bool false) (.int .i64 0)
  have blX := below_set7 blS (by have := RLW.out; omega : w.heap.size ≤ W.heap.size) (.int .i64 3) (.int .i64 0) (.int .i64 0) (.int .i64 0) (.int .i64 0) (.bool false) (.int .i64 0)
  have hXs : P.heap.size ≤ (set7 wS W.heap.size (.int .i64 3) (.int .i64 0) (.int .i64 0) (.int .i64 0) (.int .i64 0) (.bool false) (.int .i64 0)).heap.size := by unfold set7; simp only [World.size_setCell]; exact bS.size
  obtain ⟨X, hX⟩ : ∃ X, set7 wS W.heap.size (.int .i64 3) (.int .i64 0) (.int .i64 0) (.int .i64 0) (.int .i64 0) (.bool false) (.int .i64 0) = X := ⟨_, rfl⟩
  rw [hX] at kqX krX khX blX hXs
  unfold set7 at hX
  have HX := Lib.hid hX
  have KA := Lib.hid kqX
  have K1A := Lib.hid krX
  have KHX := Lib.hid khX
  have BLA := Lib.hid blX
  have HXS := Lib.hid hXs
  have RA := Lib.hid (RH.out.below blX)
  clear hX kqX krX khX blX hXs kqS krS khS blS bS hgW hgW1 KQP KRP KHP BLP
  go_upto_region 15 with fail
  rw [HX.out]
  clear HX z0 z1 z2 z3 z4 z5 z6 e0 e1 e2 e3 e4 e5 e6 lz
  have y0 : _ = some (Value.slice mA ms.length mc) := KA.out.cell 0
  have y1 : _ = some (Value.int .i64 0) := KA.out.cell 1
  have y2 : _ = some (Value.int .i64 cap) := KA.out.cell 2
  have lsa := KA.out.lt
  obtain ⟨z0, z1, z2, z3, z4, z5, z6⟩ := KHX.out.c7
  have lz := KHX.out.lt
  go_wp2_with fail
  refine (HST.out _ RA.out.m).mono ?_
  rintro e w2 ⟨A2, c2', rfl, o2, b2'⟩
  have kq := KA.out.below b2' KA.out.lt
  have kr := K1A.out.below b2' K1A.out.lt
  have R2 := RA.out.below b2'
  have bl2 := below3 BLA.out b2'
  have ky := Bk.new w2 27 #[.int .i64 k2, .int .i64 p2, .int .i64 v2, .int .i64 t2, .int .i64 b2, .bool wn2, .int .i64 0]
  have bb2 := (Below.refl w2.heap.size w2).alloc (Nat.le_refl _) (.cells #[.int .i64 k2, .int .i64 p2, .int .i64 v2, .int .i64 t2, .int .i64 b2, .bool wn2, .int .i64 0] 27)
  have hw23 : (w2.alloc (.cells #[.int .i64 k2, .int .i64 p2, .int .i64 v2, .int .i64 t2, .int .i64 b2, .bool wn2, .int .i64 0] 27)).heap.size = w2.heap.size + 1 := by simp
  have kqy := kq.below bb2 kq.lt
  have hsw : w.heap.size + 1 < w2.heap.size := kr.lt
  have kry := kr.below bb2 kr.lt
  have Ry := R2.below bb2
  have oy := o2.below bb2
  have bly := below3 bl2 bb2
  have q3 : _ = some (Value.slice (some ⟨gh, 0, none⟩) hs.length hcp) := kqy.cell 3
  have lqy := kqy.lt
  have HOWN := Lib.hid Ry.h
  have KQ := Lib.hid kqy
  have KR := Lib.hid kry
  have KY := Lib.hid ky
  have OY := Lib.hid oy.ints
  have OB := Lib.hid (oy.block (n := 0) (d := 0))
  have ol2 : ∀ a : Addr, A2 = some a → a.block < (w2.alloc (.cells #[.int .i64 k2, .int .i64 p2, .int .i64 v2, .int .i64 t2, .int .i64 b2, .bool wn2, .int .i64 0] 27)).heap.size := fun a e => by subst e; exact (oy.2.2.lt a.block rfl).2
  have OL := Lib.hid ol2
  have GY := Lib.hid Ry.g
  have AB := Lib.hid (oy.ne_map Ry.g)
  have BY := Lib.hid bly
  have h0 : 0 < hs.length := by omega
  have hl10 : hs.length ≤ 1000 := by have := HL.out; omega
  clear z0 z1 z2 z3 z4 z5 z6 lz y0 y1 y2 lsa kq kr R2 bl2 ky bb2 kqy kry Ry oy ol2 bly o2 b2' KA K1A RA BLA
  simp only [hv]
  go_upto_region 20 with (at_builtin; go_loud (refine wpList_copyH _ rfl _ _ rfl rfl 0 gh hcp hs.length hs rfl rfl rfl HOWN.out h0 hl10 ?_; intro A4 c4' w4 oh4 bh4; obtain ⟨g4, rfl, hg4, hg4l⟩ := oh4.form; have kq4 := KQ.out.below bh4 KQ.out.lt; have kr4 := KR.out.below bh4 KR.out.lt; have ky4 := KY.out.below bh4 KY.out.lt; have m4 := OY.out.below bh4; have G4 := GY.out.below bh4; have bl4 := below3 BY.out bh4; rw [hw23] at hg4; have hbne : ∀ a, A2 = some a → a.block ≠ g4 := fun a e => by have := OL.out a e; omega))
  have hyb : w2.heap.size ≠ b := G4.ne_bk ky4
  have hbg : g4 ≠ b := by obtain ⟨gg, cs, e, -, hk, -, -⟩ := oh4; injection e with e; injection e with e _ _; subst e; exact G4.ne_bk hk
  have hsb : w.heap.size ≠ b := G4.ne_bk kq4
  have hrb : w.heap.size + 1 ≠ b := G4.ne_bk kr4
  obtain ⟨d7, fz⟩ := oh4.at_ hw
  rw [HH.out] at d7
  have d0 : _ = some (Value.int .i64 k) := d7 0 (by omega)
  have d1 : _ = some (Value.int .i64 p) := d7 1 (by omega)
  have d2 : _ = some (Value.int .i64 v) := d7 2 (by omega)
  have d3 : _ = some (Value.int .i64 t) := d7 3 (by omega)
  have d4 : _ = some (Value.int .i64 bb) := d7 4 (by omega)
  have d5 : _ = some (Value.bool wn) := d7 5 (by omega)
  have d6 : _ = some (Value.int .i64 s) := d7 6 (by omega)
  rw [Nat.add_zero] at d0
  have e0 := fz (who * 7)
  have e1 := fz (who * 7 + 1)
  have e2 := fz (who * 7 + 2)
  have e3 := fz (who * 7 + 3)
  have e4 := fz (who * 7 + 4)
  have e5 := fz (who * 7 + 5)
  have e6 := fz (who * 7 + 6)
  obtain ⟨z0, z1, z2, z3, z4, z5, z6⟩ := ky4.c7
  have ly := ky4.lt
  have oV := oh4.put hw ⟨k2, p2, v2, t2, b2, wn2, 0⟩
  have kqV := Bk.far7a (o := who * 7) kq4 (by omega : w.heap.size ≠ g4) (.int .i64 k2) (.int .i64 p2) (.int .i64 v2) (.int .i64 t2) (.int .i64 b2) (.bool wn2) (.int .i64 0)
  have krV := Bk.far7a (o := who * 7) kr4 (by omega : w.heap.size + 1 ≠ g4) (.int .i64 k2) (.int .i64 p2) (.int .i64 v2) (.int .i64 t2) (.int .i64 b2) (.bool wn2) (.int .i64 0)
  have kyV := Bk.far7a (o := who * 7) ky4 (by omega : w2.heap.size ≠ g4) (.int .i64 k2) (.int .i64 p2) (.int .i64 v2) (.int .i64 t2) (.int .i64 b2) (.bool wn2) (.int .i64 0)
  have gV := grown_set7a w4 g4 (who * 7) (.int .i64 k2) (.int .i64 p2) (.int .i64 v2) (.int .i64 t2) (.int .i64 b2) (.bool wn2) (.int .i64 0)
  have mV := m4.grown gV (fun a e e' => by injection e' with e'; exact hbne a e e')
  have GV := G4.grown gV (fun e => by injection e with e; exact hbg e.symm)
  have blV := below_set7a bl4 (by omega : w.heap.size ≤ g4) (who * 7) (.int .i64 k2) (.int .i64 p2) (.int .i64 v2) (.int .i64 t2) (.int .i64 b2) (.bool wn2) (.int .i64 0)
  simp only at oV
  obtain ⟨V, hV⟩ : ∃ V, set7a w4 g4 (who * 7) (.int .i64 k2) (.int .i64 p2) (.int .i64 v2) (.int .i64 t2) (.int .i64 b2) (.bool wn2) (.int .i64 0) = V := ⟨_, rfl⟩
  rw [hV] at oV kqV krV kyV mV GV blV
  unfold set7a at hV
  have HV := Lib.hid hV
  have OV := Lib.hid oV
  have KQV := Lib.hid kqV
  have KRV := Lib.hid krV
  have KYV := Lib.hid kyV
  have MV := Lib.hid mV
  have GVV := Lib.hid GV
  have BLV := Lib.hid blV
  clear hV d7 fz oV kqV krV kyV gV mV GV blV oh4 kq4 kr4 ky4 m4 G4 bl4 bh4 q3 lqy HOWN
  go_upto_region 21 with fail
  rw [HV.out]
  clear HV d0 d1 d2 d3 d4 d5 d6 e0 e1 e2 e3 e4 e5 e6 z0 z1 z2 z3 z4 z5 z6 ly
  have q3 : _ = some (Value.slice (some ⟨gh, 0, none⟩) hs.length hcp) := KQV.out.cell 3
  have q0 : _ = some (Value.slice mA ms.length mc) := KQV.out.cell 0
  have fq3 := KQV.out.frozen 3
  have fq0 := KQV.out.frozen 0
  have lq := KQV.out.lt
  have kqU := (KQV.out.set_ 3 (.slice (some ⟨g4, 0, none⟩) hs.length c4')).set_ 0 (.slice A2 ms2.length c2')
  have krU := (KRV.out.far (p := ⟨w.heap.size, 3, none⟩) (by simp) (.slice (some ⟨g4, 0, none⟩) hs.length c4')).far (p := ⟨w.heap.size, 0, none⟩) (by simp) (.slice A2 ms2.length c2')
  have hys : w2.heap.size ≠ w.heap.size := by omega
  have kyU := (KYV.out.far (p := ⟨w.heap.size, 3, none⟩) hys (.slice (some ⟨g4, 0, none⟩) hs.length c4')).far (p := ⟨w.heap.size, 0, none⟩) hys (.slice A2 ms2.length c2')
  have gU := (grown_set (w := V) (g := w.heap.size) (i := 3) (.slice (some ⟨g4, 0, none⟩) hs.length c4')).trans (grown_set (.slice A2 ms2.length c2') (i := 0))
  have hAs : ∀ a : Addr, A2 = some a → a.block ≠ w.heap.size := fun a e => by have h := OB.out a.block (by rw [e]; rfl); have := HXS.out; have := HPs.out; have := RLW.out; omega
  have mU := MV.out.grown gU (fun a e e' => by injection e' with e'; exact hAs a e e')
  have oU := OV.out.grown gU (fun k hk a e => by injection hk with hk; injection e with e; subst hk e; show g4 ≠ w.heap.size; omega)
  have GU := GVV.out.grown gU (fun e => by injection e with e; exact hsb e.symm)
  have blU := (BLV.out.setCell (p := ⟨w.heap.size, 3, none⟩) (Nat.le_refl _) (.slice (some ⟨g4, 0, none⟩) hs.length c4')).setCell (p := ⟨w.heap.size, 0, none⟩) (Nat.le_refl _) (.slice A2 ms2.length c2')
  obtain ⟨U, hU⟩ : ∃ U, (V.setCell ⟨w.heap.size, 3, none⟩ (.slice (some ⟨g4, 0, none⟩) hs.length c4')).setCell ⟨w.heap.size, 0, none⟩ (.slice A2 ms2.length c2') = U := ⟨_, rfl⟩
  rw [hU] at kqU krU kyU mU oU GU blU
  have HU := Lib.hid hU
  have KQU := Lib.hid kqU
  have KRU := Lib.hid krU
  have KYU := Lib.hid kyU
  have MU := Lib.hid mU
  have OU := Lib.hid oU
  have GU' := Lib.hid GU
  have BLU := Lib.hid blU
  clear hU kqU krU kyU gU hAs mU oU GU blU OV KQV KRV KYV MV GVV BLV
  go_upto_region 23 with fail
  rw [HU.out]
  clear HU q3 q0 fq3 fq0 lq
  obtain ⟨z0, z1, z2, z3, z4, z5, z6⟩ := KYU.out.c7
  have ly := KYU.out.lt
  have kq : Bk U w.heap.size 49 #[.slice A2 ms2.length c2', .int .i64 0, .int .i64 cap, .slice (some ⟨g4, 0, none⟩) hs.length c4', .map (some b), .int .i64 nx, .int .i64 left, .bool false] := KQU.out
  have kr := KRU.out
  obtain ⟨x0, x1, x2, x3, x4, x5, x6, x7⟩ := kq.c8
  obtain ⟨y0, y1, y2, y3, y4, y5, y6, y7⟩ := kr.c8
  obtain ⟨g0, g1, g2, g3, g4', g5, g6, g7⟩ := kr.f8
  have lq := kq.lt
  have lr := kr.lt
  have K2 := Lib.hid (bk_set8 kr (.slice A2 ms2.length c2') (.int .i64 0) (.int .i64 cap) (.slice (some ⟨g4, 0, none⟩) hs.length c4') (.map (some b)) (.int .i64 nx) (.int .i64 left) (.bool false))
  have G8 := grown_set8 U (w.heap.size + 1) (.slice A2 ms2.length c2') (.int .i64 0) (.int .i64 cap) (.slice (some ⟨g4, 0, none⟩) hs.length c4') (.map (some b)) (.int .i64 nx) (.int .i64 left) (.bool false)
  have hA8 : ∀ a : Addr, A2 = some a → a.block ≠ w.heap.size + 1 := fun a e => by have h := OB.out a.block (by rw [e]; rfl); have := HXS.out; have := HPs.out; have := RLW.out; omega
  have M8 := Lib.hid (MU.out.grown G8 (fun a e e' => by injection e' with e'; exact hA8 a e e'))
  have O8 := Lib.hid (OU.out.grown G8 (fun k hk a e => by injection hk with hk; injection e with e; subst hk e; show g4 ≠ w.heap.size + 1; omega))
  have C8 := Lib.hid (GU'.out.grown G8 (fun e => by injection e with e; exact hrb e.symm))
  have B8 := Lib.hid (below_set8 BLU.out (by omega : w.heap.size ≤ w.heap.size + 1) (.slice A2 ms2.length c2') (.int .i64 0) (.int .i64 cap) (.slice (some ⟨g4, 0, none⟩) hs.length c4') (.map (some b)) (.int .i64 nx) (.int .i64 left) (.bool false))
  clear kq kr G8 hA8
  go_wp2
  obtain ⟨r0, r1, r2, r3, r4, r5, r6, r7⟩ := K2.out.c8
  unfold set8 at r0 r1 r2 r3 r4 r5 r6 r7
  exact bodyPost_ret (v := .agg #[.slice A2 ms2.length c2', .int .i64 0, .int .i64 cap, .slice (some ⟨g4, 0, none⟩) hs.length c4', .map (some b), .int .i64 nx, .int .i64 left, .bool false]) (by simp [results, Try.results20, go_sem, r0, r1, r2, r3, r4, r5, r6, r7]) rfl ⟨A2, c2', g4, c4', by unfold raceC; rw [List.length_set], ⟨M8.out, O8.out.base_ (Nat.zero_le _), C8.out⟩, Below.gb B8.out⟩

set_option maxHeartbeats 4000000 in
theorem stp_new_steal1 (mA : Option Addr) (mc : Nat) (ms : List Int) (gh hcp : Nat) (hs : List Hd) (b n : Nat) (G : Int → Nat) (cap nx left lf who : Nat) (pops : Bool) (w : World) (R : RcI w mA ms gh hs b n G) (hw : who < hs.length) (hl : hs.length ≤ 10) (hq : MayQ ms.length 0 cap)
    (k p v t bb : Int) (wn : Bool) (s : Int) (hh : hth hs who = ⟨k, p, v, t, bb, wn, s⟩) (hk : k ≠ 0) (hsx : s ≠ 0) (hw0 : who ≠ 0) (hlf : lf = left + 1) (hlb : left < 1000) (ms2 : List Int) (k2 p2 v2 t2 b2 : Int) (wn2 : Bool) (ha : accF ms 0 cap ⟨3, 0, 0, 0, 0, false, 0⟩ = some (ms2, ⟨k2, p2, v2, t2, b2, wn2, 0⟩)) :
    Calls Try.prog 20 #[.agg #[.slice mA ms.length mc, .int .i64 0, .int .i64 cap, .slice (some ⟨gh, 0, none⟩) hs.length hcp, .map (some b), .int .i64 nx, .int .i64 lf, .bool false], .int .i64 who, .bool pops] w (StpOf cap b n w ms2 (hs.set who ⟨k2, p2, v2, t2, b2, wn2, 0⟩) G nx left) := by
  have k0 := (Bk.new w 49 #[.slice mA ms.length mc, .int .i64 0, .int .i64 cap, .slice (some ⟨gh, 0, none⟩) hs.length hcp, .map (some b), .int .i64 nx, .int .i64 lf, .bool false]).alloc (.cells #[.slice none 0 0, .int .i64 0, .int .i64 0, .slice none 0 0, .map none, .int .i64 0, .int .i64 0, .bool false] 49)
  have k1 := Bk.new (w.alloc (.cells #[.slice mA ms.length mc, .int .i64 0, .int .i64 cap, .slice (some ⟨gh, 0, none⟩) hs.length hcp, .map (some b), .int .i64 nx, .int .i64 lf, .bool false] 49)) 49 #[.slice none 0 0, .int .i64 0, .int .i64 0, .slice none 0 0, .map none, .int .i64 0, .int .i64 0, .bool false]
  rw [size_alloc] at k1
  have bl := two_boxes w #[.slice mA ms.length mc, .int .i64 0, .int .i64 cap, .slice (some ⟨gh, 0, none⟩) hs.length hcp, .map (some b), .int .i64 nx, .int .i64 lf, .bool false] #[.slice none 0 0, .int .i64 0, .int .i64 0, .slice none 0 0, .map none, .int .i64 0, .int .i64 0, .bool false] 49 49
  have hWs : ((w.alloc (.cells #[.slice mA ms.length mc, .int .i64 0, .int .i64 cap, .slice (some ⟨gh, 0, none⟩) hs.length hcp, .map (some b), .int .i64 nx, .int .i64 lf, .bool false] 49)).alloc (.cells #[.slice none 0 0, .int .i64 0, .int .i64 0, .slice none 0 0, .map none, .int .i64 0, .int .i64 0, .bool false] 49)).heap.size = w.heap.size + 2 := by simp
  obtain ⟨W, hW⟩ : ∃ W, (w.alloc (.cells #[.slice mA ms.length mc, .int .i64 0, .int .i64 cap, .slice (some ⟨gh, 0, none⟩) hs.length hcp, .map (some b), .int .i64 nx, .int .i64 lf, .bool false] 49)).alloc (.cells #[.slice none 0 0, .int .i64 0, .int .i64 0, .slice none 0 0, .map none, .int .i64 0, .int .i64 0, .bool false] 49) = W := ⟨_, rfl⟩
  rw [hW] at k0 k1 bl hWs
  have HW := Lib.hid hW
  have BLW := Lib.hid bl
  have RLW : Hid (w.heap.size + 1 < W.heap.size) := Lib.hid k1.lt
  have R0 := R.below bl
  have hkb : (k == 0) = false := by simpa using hk
  have hsb0 : (s == 0) = false := by simpa using hsx
  have hsb1 : (s != 0) = true := by simpa using hsx
  have hwb : ((who : Int) == 0) = false := by simp; exact hw0
  have hlz : ((lf : Int) == 0) = false := by subst hlf; simp; omega
  have hlw : IntKind.i64.wrap ((lf : Int) - 1) = (left : Int) := by subst hlf; rw [IntKind.wrap_i64]; omega
  skip
  have ha7 := (R0.h.at_ hw).1
  rw [hh] at ha7
  have c0 : _ = some (Value.int .i64 k) := ha7 0 (by omega)
  have c1 : _ = some (Value.int .i64 p) := ha7 1 (by omega)
  have c2 : _ = some (Value.int .i64 v) := ha7 2 (by omega)
  have c3 : _ = some (Value.int .i64 t) := ha7 3 (by omega)
  have c4 : _ = some (Value.int .i64 bb) := ha7 4 (by omega)
  have c5 : _ = some (Value.bool wn) := ha7 5 (by omega)
  have c6 : _ = some (Value.int .i64 s) := ha7 6 (by omega)
  rw [Nat.add_zero] at c0
  have x3 : _ = some (Value.slice (some ⟨gh, 0, none⟩) hs.length hcp) := k0.cell 3
  have ls := k0.lt
  obtain ⟨gh', eg, -, lgh⟩ := R0.h.form
  obtain rfl : gh = gh' := by injection eg with eg; injection eg
  have ba := (Below.refl W.heap.size W).alloc (Nat.le_refl _) (.cells #[.int .i64 k, .int .i64 p, .int .i64 v, .int .i64 t, .int .i64 bb, .bool wn, .int .i64 s] 27)
  have hAs : (W.alloc (.cells #[.int .i64 k, .int .i64 p, .int .i64 v, .int .i64 t, .int .i64 bb, .bool wn, .int .i64 s] 27)).heap.size = W.heap.size + 1 := by simp
  have k0a := k0.below ba k0.lt
  have k1a := k1.below ba k1.lt
  have bla := below3 bl ba
  have y5 : _ = some (Value.int .i64 lf) := k0a.cell 6
  have f5 := k0a.frozen 6
  have lsa := k0a.lt
  have k0p := k0.set_ 6 (.int .i64 left)
  have k1p := k1.far (p := ⟨w.heap.size, 6, none⟩) (by simp) (.int .i64 left)
  have blp := bl.setCell (p := ⟨w.heap.size, 6, none⟩) (Nat.le_refl _) (.int .i64 left)
  have bap := (Below.refl (W.setCell ⟨w.heap.size, 6, none⟩ (.int .i64 left)).heap.size (W.setCell ⟨w.heap.size, 6, none⟩ (.int .i64 left))).alloc (Nat.le_refl _) (.cells #[.int .i64 k, .int .i64 p, .int .i64 v, .int .i64 t, .int .i64 bb, .bool wn, .int .i64 s] 27)
  have khp := Bk.new (W.setCell ⟨w.heap.size, 6, none⟩ (.int .i64 left)) 27 #[.int .i64 k, .int .i64 p, .int .i64 v, .int .i64 t, .int .i64 bb, .bool wn, .int .i64 s]
  simp only [World.size_setCell] at khp
  have k0p := k0p.below bap k0p.lt
  have k1p := k1p.below bap k1p.lt
  have blp := below3 blp bap
  have hPs : ((W.setCell ⟨w.heap.size, 6, none⟩ (.int .i64 left)).alloc (.cells #[.int .i64 k, .int .i64 p, .int .i64 v, .int .i64 t, .int .i64 bb, .bool wn, .int .i64 s] 27)).heap.size = W.heap.size + 1 := by simp
  obtain ⟨P, hP⟩ : ∃ P, ((W.setCell ⟨w.heap.size, 6, none⟩ (.int .i64 left)).alloc (.cells #[.int .i64 k, .int .i64 p, .int .i64 v, .int .i64 t, .int .i64 bb, .bool wn, .int .i64 s] 27)) = P := ⟨_, rfl⟩
  rw [hP] at k0p k1p khp blp hPs
  have HP := Lib.hid hP
  have KQP := Lib.hid k0p
  have KRP := Lib.hid k1p
  have KHP := Lib.hid khp
  have BLP := Lib.hid blp
  have HPs := Lib.hid hPs
  have RH := Lib.hid R
  have hm : MayH ⟨3, 0, 0, 0, 0, false, 0⟩ := may_new (kind := 3) (v := 0) (by omega)
  have HST := Lib.hid (fun X (hx : Ints X mA ms.length ms) => step_any mA ms.length mc 0 cap ms ⟨3, 0, 0, 0, 0, false, 0⟩ X hx (by unfold Fit; omega) ⟨by omega, by have := hq.2.2.1; omega⟩ (HdF.of_may hm fit0))
  have hsf : stepF ms 0 cap ⟨3, 0, 0, 0, 0, false, 0⟩ = (0, ms2, ⟨k2, p2, v2, t2, b2, wn2, 0⟩) := by
    unfold stepF
    rw [if_pos ⟨hm, hq⟩, if_pos rfl, Int.toNat_natCast, show (0 : Int).toNat = 0 from rfl, ha]
  rw [hsf] at HST
  unfold hv at HST
  have HS0 := Lib.hid (fun w => start2_any 3 0 w (by unfold Fit; omega))
  have hpc : 0 < pcsF 3 := by decide
  simp only [if_pos hpc] at HS0
  unfold newH hv at HS0
  have HH := Lib.hid hh
  have HL := Lib.hid hl
  clear hW k0 k1 bl hWs R0 ha7 ba hAs k0a k1a bla bap k0p k1p khp blp hP hPs hm hsf hk ha R eg hh hw0 hlf hlb hpc hsx
  go_enter Try.func20, Try.ntmps20
  go_upto_region 1 with fail
  rw [HW.out]
  clear HW
  go_upto_region 14 with fail
  rw [HP.out]
  clear HP c0 c1 c2 c3 c4 c5 c6 x3 ls lgh y5 f5 lsa
  go_wp2_with fail
  refine (HS0.out _).mono ?_
  rintro e wS ⟨rfl, bS⟩
  have kqS := KQP.out.below bS KQP.out.lt
  have krS := KRP.out.below bS KRP.out.lt
  have khS := KHP.out.below bS KHP.out.lt
  have blS := below3 BLP.out bS
  obtain ⟨z0, z1, z2, z3, z4, z5, z6⟩ := khS.c7
  obtain ⟨e0, e1, e2, e3, e4, e5, e6⟩ := khS.f7
  have lz := khS.lt
  have hgW : W.heap.size ≠ w.heap.size := by have := RLW.out; omega
  have hgW1 : W.heap.size ≠ w.heap.size + 1 := by have := RLW.out; omega
  have kqX := kqS.far7 (Ne.symm hgW) (.int .i64 3) (.int .i64 0) (.int .i64 0) (.int .i64 0) (.int .i64 0) (.bool false) (.int .i64 0)
  have krX := krS.far7 (Ne.symm hgW1) (.int .i64 3) (.int .i64 0) (.int .i64 0) (.int .i64 0) (.int .i64 0) (.bool false) (.int .i64 0)
  have khX := bk_set7 khS (.int .i64 3) (.int .i64 0) (.int .i64 0) (.int .i64 0) (.int .i64 0) (.bool false) (.int .i64 0)
  have blX := below_set7 blS (by have := RLW.out; omega : w.heap.size ≤ W.heap.size) (.int .i64 3) (.int .i64 0) (.int .i64 0) (.int .i64 0) (.int .i64 0) (.bool false) (.int .i64 0)
  have hXs : P.heap.size ≤ (set7 wS W.heap.size (.int .i64 3) (.int .i64 0) (.int .i64 0) (.int .i64 0) (.int .i64 0) (.bool false) (.int .i64 0)).heap.size := by unfold set7; simp only [World.size_setCell]; exact bS.size
  obtain ⟨X, hX⟩ : ∃ X, set7 wS W.heap.size (.int .i64 3) (.int .i64 0) (.int .i64 0) (.int .i64 0) (.int .i64 0) (.bool false) (.int .i64 0) = X := ⟨_, rfl⟩
  rw [hX] at kqX krX khX blX hXs
  unfold set7 at hX
  have HX := Lib.hid hX
  have KA := Lib.hid kqX
  have K1A := Lib.hid krX
  have KHX := Lib.hid khX
  have BLA := Lib.hid blX
  have HXS := Lib.hid hXs
  have RA := Lib.hid (RH.out.below blX)
  clear hX kqX krX khX blX hXs kqS krS khS blS bS hgW hgW1 KQP KRP KHP BLP
  go_upto_region 15 with fail
  rw [HX.out]
  clear HX z0 z1 z2 z3 z4 z5 z6 e0 e1 e2 e3 e4 e5 e6 lz
  have y0 : _ = some (Value.slice mA ms.length mc) := KA.out.cell 0
  have y1 : _ = some (Value.int .i64 0) := KA.out.cell 1
  have y2 : _ = some (Value.int .i64 cap) := KA.out.cell 2
  have lsa := KA.out.lt
  obtain ⟨z0, z1, z2, z3, z4, z5, z6⟩ := KHX.out.c7
  have lz := KHX.out.lt
  go_wp2_with fail
  refine (HST.out _ RA.out.m).mono ?_
  rintro e w2 ⟨A2, c2', rfl, o2, b2'⟩
  have kq := KA.out.below b2' KA.out.lt
  have kr := K1A.out.below b2' K1A.out.lt
  have R2 := RA.out.below b2'
  have bl2 := below3 BLA.out b2'
  have ky := Bk.new w2 27 #[.int .i64 k2, .int .i64 p2, .int .i64 v2, .int .i64 t2, .int .i64 b2, .bool wn2, .int .i64 0]
  have bb2 := (Below.refl w2.heap.size w2).alloc (Nat.le_refl _) (.cells #[.int .i64 k2, .int .i64 p2, .int .i64 v2, .int .i64 t2, .int .i64 b2, .bool wn2, .int .i64 0] 27)
  have hw23 : (w2.alloc (.cells #[.int .i64 k2, .int .i64 p2, .int .i64 v2, .int .i64 t2, .int .i64 b2, .bool wn2, .int .i64 0] 27)).heap.size = w2.heap.size + 1 := by simp
  have kqy := kq.below bb2 kq.lt
  have hsw : w.heap.size + 1 < w2.heap.size := kr.lt
  have kry := kr.below bb2 kr.lt
  have Ry := R2.below bb2
  have oy := o2.below bb2
  have bly := below3 bl2 bb2
  have q3 : _ = some (Value.slice (some ⟨gh, 0, none⟩) hs.length hcp) := kqy.cell 3
  have lqy := kqy.lt
  have HOWN := Lib.hid Ry.h
  have KQ := Lib.hid kqy
  have KR := Lib.hid kry
  have KY := Lib.hid ky
  have OY := Lib.hid oy.ints
  have OB := Lib.hid (oy.block (n := 0) (d := 0))
  have ol2 : ∀ a : Addr, A2 = some a → a.block < (w2.alloc (.cells #[.int .i64 k2, .int .i64 p2, .int .i64 v2, .int .i64 t2, .int .i64 b2, .bool wn2, .int .i64 0] 27)).heap.size := fun a e => by subst e; exact (oy.2.2.lt a.block rfl).2
  have OL := Lib.hid ol2
  have GY := Lib.hid Ry.g
  have AB := Lib.hid (oy.ne_map Ry.g)
  have BY := Lib.hid bly
  have h0 : 0 < hs.length := by omega
  have hl10 : hs.length ≤ 1000 := by have := HL.out; omega
  clear z0 z1 z2 z3 z4 z5 z6 lz y0 y1 y2 lsa kq kr R2 bl2 ky bb2 kqy kry Ry oy ol2 bly o2 b2' KA K1A RA BLA
  simp only [hv]
  go_upto_region 20 with (at_builtin; go_loud (refine wpList_copyH _ rfl _ _ rfl rfl 0 gh hcp hs.length hs rfl rfl rfl HOWN.out h0 hl10 ?_; intro A4 c4' w4 oh4 bh4; obtain ⟨g4, rfl, hg4, hg4l⟩ := oh4.form; have kq4 := KQ.out.below bh4 KQ.out.lt; have kr4 := KR.out.below bh4 KR.out.lt; have ky4 := KY.out.below bh4 KY.out.lt; have m4 := OY.out.below bh4; have G4 := GY.out.below bh4; have bl4 := below3 BY.out bh4; rw [hw23] at hg4; have hbne : ∀ a, A2 = some a → a.block ≠ g4 := fun a e => by have := OL.out a e; omega))
  have hyb : w2.heap.size ≠ b := G4.ne_bk ky4
  have hbg : g4 ≠ b := by obtain ⟨gg, cs, e, -, hk, -, -⟩ := oh4; injection e with e; injection e with e _ _; subst e; exact G4.ne_bk hk
  have hsb : w.heap.size ≠ b := G4.ne_bk kq4
  have hrb : w.heap.size + 1 ≠ b := G4.ne_bk kr4
  obtain ⟨d7, fz⟩ := oh4.at_ hw
  rw [HH.out] at d7
  have d0 : _ = some (Value.int .i64 k) := d7 0 (by omega)
  have d1 : _ = some (Value.int .i64 p) := d7 1 (by omega)
  have d2 : _ = some (Value.int .i64 v) := d7 2 (by omega)
  have d3 : _ = some (Value.int .i64 t) := d7 3 (by omega)
  have d4 : _ = some (Value.int .i64 bb) := d7 4 (by omega)
  have d5 : _ = some (Value.bool wn) := d7 5 (by omega)
  have d6 : _ = some (Value.int .i64 s) := d7 6 (by omega)
  rw [Nat.add_zero] at d0
  have e0 := fz (who * 7)
  have e1 := fz (who * 7 + 1)
  have e2 := fz (who * 7 + 2)
  have e3 := fz (who * 7 + 3)
  have e4 := fz (who * 7 + 4)
  have e5 := fz (who * 7 + 5)
  have e6 := fz (who * 7 + 6)
  obtain ⟨z0, z1, z2, z3, z4, z5, z6⟩ := ky4.c7
  have ly := ky4.lt
  have oV := oh4.put hw ⟨k2, p2, v2, t2, b2, wn2, 0⟩
  have kqV := Bk.far7a (o := who * 7) kq4 (by omega : w.heap.size ≠ g4) (.int .i64 k2) (.int .i64 p2) (.int .i64 v2) (.int .i64 t2) (.int .i64 b2) (.bool wn2) (.int .i64 0)
  have krV := Bk.far7a (o := who * 7) kr4 (by omega : w.heap.size + 1 ≠ g4) (.int .i64 k2) (.int .i64 p2) (.int .i64 v2) (.int .i64 t2) (.int .i64 b2) (.bool wn2) (.int .i64 0)
  have kyV := Bk.far7a (o := who * 7) ky4 (by omega : w2.heap.size ≠ g4) (.int .i64 k2) (.int .i64 p2) (.int .i64 v2) (.int .i64 t2) (.int .i64 b2) (.bool wn2) (.int .i64 0)
  have gV := grown_set7a w4 g4 (who * 7) (.int .i64 k2) (.int .i64 p2) (.int .i64 v2) (.int .i64 t2) (.int .i64 b2) (.bool wn2) (.int .i64 0)
  have mV := m4.grown gV (fun a e e' => by injection e' with e'; exact hbne a e e')
  have GV := G4.grown gV (fun e => by injection e with e; exact hbg e.symm)
  have blV := below_set7a bl4 (by omega : w.heap.size ≤ g4) (who * 7) (.int .i64 k2) (.int .i64 p2) (.int .i64 v2) (.int .i64 t2) (.int .i64 b2) (.bool wn2) (.int .i64 0)
  simp only at oV
  obtain ⟨V, hV⟩ : ∃ V, set7a w4 g4 (who * 7) (.int .i64 k2) (.int .i64 p2) (.int .i64 v2) (.int .i64 t2) (.int .i64 b2) (.bool wn2) (.int .i64 0) = V := ⟨_, rfl⟩
  rw [hV] at oV kqV krV kyV mV GV blV
  unfold set7a at hV
  have HV := Lib.hid hV
  have OV := Lib.hid oV
  have KQV := Lib.hid kqV
  have KRV := Lib.hid krV
  have KYV := Lib.hid kyV
  have MV := Lib.hid mV
  have GVV := Lib.hid GV
  have BLV := Lib.hid blV
  clear hV d7 fz oV kqV krV kyV gV mV GV blV oh4 kq4 kr4 ky4 m4 G4 bl4 bh4 q3 lqy HOWN
  go_upto_region 21 with fail
  rw [HV.out]
  clear HV d0 d1 d2 d3 d4 d5 d6 e0 e1 e2 e3 e4 e5 e6 z0 z1 z2 z3 z4 z5 z6 ly
  have q3 : _ = some (Value.slice (some ⟨gh, 0, none⟩) hs.length hcp) := KQV.out.cell 3
  have q0 : _ = some (Value.slice mA ms.length mc) := KQV.out.cell 0
  have fq3 := KQV.out.frozen 3
  have fq0 := KQV.out.frozen 0
  have lq := KQV.out.lt
  have kqU := (KQV.out.set_ 3 (.slice (some ⟨g4, 0, none⟩) hs.length c4')).set_ 0 (.slice A2 ms2.length c2')
  have krU := (KRV.out.far (p := ⟨w.heap.size, 3, none⟩) (by simp) (.slice (some ⟨g4, 0, none⟩) hs.length c4')).far (p := ⟨w.heap.size, 0, none⟩) (by simp) (.slice A2 ms2.length c2')
  have hys : w2.heap.size ≠ w.heap.size := by omega
  have kyU := (KYV.out.far (p := ⟨w.heap.size, 3, none⟩) hys (.slice (some ⟨g4, 0, none⟩) hs.length c4')).far (p := ⟨w.heap.size, 0, none⟩) hys (.slice A2 ms2.length c2')
  have gU := (grown_set (w := V) (g := w.heap.size) (i := 3) (.slice (some ⟨g4, 0, none⟩) hs.length c4')).trans (grown_set (.slice A2 ms2.length c2') (i := 0))
  have hAs : ∀ a : Addr, A2 = some a → a.block ≠ w.heap.size := fun a e => by have h := OB.out a.block (by rw [e]; rfl); have := HXS.out; have := HPs.out; have := RLW.out; omega
  have mU := MV.out.grown gU (fun a e e' => by injection e' with e'; exact hAs a e e')
  have oU := OV.out.grown gU (fun k hk a e => by injection hk with hk; injection e with e; subst hk e; show g4 ≠ w.heap.size; omega)
  have GU := GVV.out.grown gU (fun e => by injection e with e; exact hsb e.symm)
  have blU := (BLV.out.setCell (p := ⟨w.heap.size, 3, none⟩) (Nat.le_refl _) (.slice (some ⟨g4, 0, none⟩) hs.length c4')).setCell (p := ⟨w.heap.size, 0, none⟩) (Nat.le_refl _) (.slice A2 ms2.length c2')
  obtain ⟨U, hU⟩ : ∃ U, (V.setCell ⟨w.heap.size, 3, none⟩ (.slice (some ⟨g4, 0, none⟩) hs.length c4')).setCell ⟨w.heap.size, 0, none⟩ (.slice A2 ms2.length c2') = U := ⟨_, rfl⟩
  rw [hU] at kqU krU kyU mU oU GU blU
  have HU := Lib.hid hU
  have KQU := Lib.hid kqU
  have KRU := Lib.hid krU
  have KYU := Lib.hid kyU
  have MU := Lib.hid mU
  have OU := Lib.hid oU
  have GU' := Lib.hid GU
  have BLU := Lib.hid blU
  clear hU kqU krU kyU gU hAs mU oU GU blU OV KQV KRV KYV MV GVV BLV
  go_upto_region 23 with fail
  rw [HU.out]
  clear HU q3 q0 fq3 fq0 lq
  obtain ⟨z0, z1, z2, z3, z4, z5, z6⟩ := KYU.out.c7
  have ly := KYU.out.lt
  have kq : Bk U w.heap.size 49 #[.slice A2 ms2.length c2', .int .i64 0, .int .i64 cap, .slice (some ⟨g4, 0, none⟩) hs.length c4', .map (some b), .int .i64 nx, .int .i64 left, .bool false] := KQU.out
  have kr := KRU.out
  obtain ⟨x0, x1, x2, x3, x4, x5, x6, x7⟩ := kq.c8
  obtain ⟨y0, y1, y2, y3, y4, y5, y6, y7⟩ := kr.c8
  obtain ⟨g0, g1, g2, g3, g4', g5, g6, g7⟩ := kr.f8
  have lq := kq.lt
  have lr := kr.lt
  have K2 := Lib.hid (bk_set8 kr (.slice A2 ms2.length c2') (.int .i64 0) (.int .i64 cap) (.slice (some ⟨g4, 0, none⟩) hs.length c4') (.map (some b)) (.int .i64 nx) (.int .i64 left) (.bool false))
  have G8 := grown_set8 U (w.heap.size + 1) (.slice A2 ms2.length c2') (.int .i64 0) (.int .i64 cap) (.slice (some ⟨g4, 0, none⟩) hs.length c4') (.map (some b)) (.int .i64 nx) (.int .i64 left) (.bool false)
  have hA8 : ∀ a : Addr, A2 = some a → a.block ≠ w.heap.size + 1 := fun a e => by have h := OB.out a.block (by rw [e]; rfl); have := HXS.out; have := HPs.out; have := RLW.out; omega
  have M8 := Lib.hid (MU.out.grown G8 (fun a e e' => by injection e' with e'; exact hA8 a e e'))
  have O8 := Lib.hid (OU.out.grown G8 (fun k hk a e => by injection hk with hk; injection e with e; subst hk e; show g4 ≠ w.heap.size + 1; omega))
  have C8 := Lib.hid (GU'.out.grown G8 (fun e => by injection e with e; exact hrb e.symm))
  have B8 := Lib.hid (below_set8 BLU.out (by omega : w.heap.size ≤ w.heap.size + 1) (.slice A2 ms2.length c2') (.int .i64 0) (.int .i64 cap) (.slice (some ⟨g4, 0, none⟩) hs.length c4') (.map (some b)) (.int .i64 nx) (.int .i64 left) (.bool false))
  clear kq kr G8 hA8
  go_wp2
  obtain ⟨r0, r1, r2, r3, r4, r5, r6, r7⟩ := K2.out.c8
  unfold set8 at r0 r1 r2 r3 r4 r5 r6 r7
  exact bodyPost_ret (v := .agg #[.slice A2 ms2.length c2', .int .i64 0, .int .i64 cap, .slice (some ⟨g4, 0, none⟩) hs.length c4', .map (some b), .int .i64 nx, .int .i64 left, .bool false]) (by simp [results, Try.results20, go_sem, r0, r1, r2, r3, r4, r5, r6, r7]) rfl ⟨A2, c2', g4, c4', by unfold raceC; rw [List.length_set], ⟨M8.out, O8.out.base_ (Nat.zero_le _), C8.out⟩, Below.gb B8.out⟩

end Go.Proofs.Ytfmiamjbhlglbaa

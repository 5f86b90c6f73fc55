/-
  RingOnce's step (layer 7): a hand that is going does its next access.
-/
import Derived.Test.YtfmiamjbhlglbaaSta
import Derived.Deep.CutBlock
namespace Go.Proofs.Ytfmiamjbhlglbaa
open Go.RowKit Go.Maps

theorem Bk.c8 {w : World} {g : Nat} {t : TypeId} {x0 x1 x2 x3 x4 x5 x6 x7 : Value} (h : Bk w g t #[x0, x1, x2, x3, x4, x5, x6, x7]) :
    w.cell? ⟨g, 0, none⟩ = some x0 ∧ w.cell? ⟨g, 1, none⟩ = some x1 ∧ w.cell? ⟨g, 2, none⟩ = some x2 ∧ w.cell? ⟨g, 3, none⟩ = some x3 ∧ w.cell? ⟨g, 4, none⟩ = some x4 ∧ w.cell? ⟨g, 5, none⟩ = some x5 ∧ w.cell? ⟨g, 6, none⟩ = some x6 ∧ w.cell? ⟨g, 7, none⟩ = some x7 :=
  ⟨h.cell 0, h.cell 1, h.cell 2, h.cell 3, h.cell 4, h.cell 5, h.cell 6, h.cell 7⟩
theorem Bk.f8 {w : World} {g : Nat} {t : TypeId} {cs : Array Value} (h : Bk w g t cs) : w.frozen? ⟨g, 0, none⟩ = false ∧ w.frozen? ⟨g, 1, none⟩ = false ∧ w.frozen? ⟨g, 2, none⟩ = false ∧ w.frozen? ⟨g, 3, none⟩ = false ∧ w.frozen? ⟨g, 4, none⟩ = false ∧ w.frozen? ⟨g, 5, none⟩ = false ∧ w.frozen? ⟨g, 6, none⟩ = false ∧ w.frozen? ⟨g, 7, none⟩ = false :=
  ⟨h.frozen 0, h.frozen 1, h.frozen 2, h.frozen 3, h.frozen 4, h.frozen 5, h.frozen 6, h.frozen 7⟩
def set8 (W : World) (g : Nat) (v0 v1 v2 v3 v4 v5 v6 v7 : Value) : World := (((((((W.setCell ⟨g, 0, none⟩ v0).setCell ⟨g, 1, none⟩ v1).setCell ⟨g, 2, none⟩ v2).setCell ⟨g, 3, none⟩ v3).setCell ⟨g, 4, none⟩ v4).setCell ⟨g, 5, none⟩ v5).setCell ⟨g, 6, none⟩ v6).setCell ⟨g, 7, none⟩ v7
theorem bk_set8 {W : World} {g : Nat} {t : TypeId} {x0 x1 x2 x3 x4 x5 x6 x7 : Value} (h : Bk W g t #[x0, x1, x2, x3, x4, x5, x6, x7]) (v0 v1 v2 v3 v4 v5 v6 v7 : Value) : Bk (set8 W g v0 v1 v2 v3 v4 v5 v6 v7) g t #[v0, v1, v2, v3, v4, v5, v6, v7] := by
  have a0 : Bk (_) g t #[v0, x1, x2, x3, x4, x5, x6, x7] := h.set_ 0 v0
  have a1 : Bk (_) g t #[v0, v1, x2, x3, x4, x5, x6, x7] := a0.set_ 1 v1
  have a2 : Bk (_) g t #[v0, v1, v2, x3, x4, x5, x6, x7] := a1.set_ 2 v2
  have a3 : Bk (_) g t #[v0, v1, v2, v3, x4, x5, x6, x7] := a2.set_ 3 v3
  have a4 : Bk (_) g t #[v0, v1, v2, v3, v4, x5, x6, x7] := a3.set_ 4 v4
  have a5 : Bk (_) g t #[v0, v1, v2, v3, v4, v5, x6, x7] := a4.set_ 5 v5
  have a6 : Bk (_) g t #[v0, v1, v2, v3, v4, v5, v6, x7] := a5.set_ 6 v6
  have a7 : Bk (_) g t #[v0, v1, v2, v3, v4, v5, v6, v7] := a6.set_ 7 v7
  exact a7
theorem grown_set8 (W : World) (g : Nat) (v0 v1 v2 v3 v4 v5 v6 v7 : Value) : W.grownBy (set8 W g v0 v1 v2 v3 v4 v5 v6 v7) (some g) :=
  (((((((grown_set (w := W) (g := g) (i := 0) v0).trans (grown_set v1)).trans (grown_set v2)).trans (grown_set v3)).trans (grown_set v4)).trans (grown_set v5)).trans (grown_set v6)).trans (grown_set v7)
theorem below_set8 {B : Nat} {w W : World} (h : Below B w W) {g : Nat} (hg : B ≤ g) (v0 v1 v2 v3 v4 v5 v6 v7 : Value) : Below B w (set8 W g v0 v1 v2 v3 v4 v5 v6 v7) :=
  (((((((h.setCell (p := ⟨g, 0, none⟩) hg v0).setCell (p := ⟨g, 1, none⟩) hg v1).setCell (p := ⟨g, 2, none⟩) hg v2).setCell (p := ⟨g, 3, none⟩) hg v3).setCell (p := ⟨g, 4, none⟩) hg v4).setCell (p := ⟨g, 5, none⟩) hg v5).setCell (p := ⟨g, 6, none⟩) hg v6).setCell (p := ⟨g, 7, none⟩) hg v7

set_option maxHeartbeats 4000000 in
theorem stp_go0 (mA : Option Addr) (mc : Nat) (ms : List Int) (gh hcp : Nat) (hs : List Hd) (b n : Nat) (G : Int → Nat) (cap nx left who : Nat) (pops : Bool) (w : World) (R : RcI w mA ms gh hs b n G) (hw : who < hs.length) (hl : hs.length ≤ 10) (hq : MayQ ms.length 0 cap)
    (k p v t bb : Int) (wn : Bool) (hh : hth hs who = ⟨k, p, v, t, bb, wn, 0⟩) (hk : k ≠ 0) (hm : MayH ⟨k, p, v, t, bb, wn, 0⟩) (fv : Fit v) (ms2 : List Int) (k2 p2 v2 t2 b2 : Int) (wn2 : Bool) (s2 : Int) (ha : accF ms 0 cap ⟨k, p, v, t, bb, wn, 0⟩ = some (ms2, ⟨k2, p2, v2, t2, b2, wn2, s2⟩)) (hs1 : ¬ (s2 = 1 ∧ k2 ≠ 1)) (hs3 : s2 ≠ 3) :
    Calls Try.prog 20 #[.agg #[.slice mA ms.length mc, .int .i64 0, .int .i64 cap, .slice (some ⟨gh, 0, none⟩) hs.length hcp, .map (some b), .int .i64 nx, .int .i64 left, .bool false], .int .i64 who, .bool pops] w (StpOf cap b n w ms2 (hs.set who ⟨k2, p2, v2, t2, b2, wn2, s2⟩) (G) nx left) := by
  have k0 := (Bk.new w 49 #[.slice mA ms.length mc, .int .i64 0, .int .i64 cap, .slice (some ⟨gh, 0, none⟩) hs.length hcp, .map (some b), .int .i64 nx, .int .i64 left, .bool false]).alloc (.cells #[.slice none 0 0, .int .i64 0, .int .i64 0, .slice none 0 0, .map none, .int .i64 0, .int .i64 0, .bool false] 49)
  have k1 := Bk.new (w.alloc (.cells #[.slice mA ms.length mc, .int .i64 0, .int .i64 cap, .slice (some ⟨gh, 0, none⟩) hs.length hcp, .map (some b), .int .i64 nx, .int .i64 left, .bool false] 49)) 49 #[.slice none 0 0, .int .i64 0, .int .i64 0, .slice none 0 0, .map none, .int .i64 0, .int .i64 0, .bool false]
  rw [size_alloc] at k1
  have bl := two_boxes w #[.slice mA ms.length mc, .int .i64 0, .int .i64 cap, .slice (some ⟨gh, 0, none⟩) hs.length hcp, .map (some b), .int .i64 nx, .int .i64 left, .bool false] #[.slice none 0 0, .int .i64 0, .int .i64 0, .slice none 0 0, .map none, .int .i64 0, .int .i64 0, .bool false] 49 49
  obtain ⟨W, hW⟩ : ∃ W, (w.alloc (.cells #[.slice mA ms.length mc, .int .i64 0, .int .i64 cap, .slice (some ⟨gh, 0, none⟩) hs.length hcp, .map (some b), .int .i64 nx, .int .i64 left, .bool false] 49)).alloc (.cells #[.slice none 0 0, .int .i64 0, .int .i64 0, .slice none 0 0, .map none, .int .i64 0, .int .i64 0, .bool false] 49) = W := ⟨_, rfl⟩
  rw [hW] at k0 k1 bl
  have HW := Lib.hid hW
  have BLW := Lib.hid bl
  have RLW : Hid (w.heap.size + 1 < W.heap.size) := Lib.hid k1.lt
  have R0 := R.below bl
  have hkb : (k == 0) = false := by simpa using hk
  have ha7 := (R0.h.at_ hw).1
  rw [hh] at ha7
  have c0 : _ = some (Value.int .i64 k) := ha7 0 (by omega)
  have c1 : _ = some (Value.int .i64 p) := ha7 1 (by omega)
  have c2 : _ = some (Value.int .i64 v) := ha7 2 (by omega)
  have c3 : _ = some (Value.int .i64 t) := ha7 3 (by omega)
  have c4 : _ = some (Value.int .i64 bb) := ha7 4 (by omega)
  have c5 : _ = some (Value.bool wn) := ha7 5 (by omega)
  have c6 : _ = some (Value.int .i64 0) := ha7 6 (by omega)
  rw [Nat.add_zero] at c0
  have x0 : _ = some (Value.slice mA ms.length mc) := k0.cell 0
  have x1 : _ = some (Value.int .i64 0) := k0.cell 1
  have x2 : _ = some (Value.int .i64 cap) := k0.cell 2
  have x3 : _ = some (Value.slice (some ⟨gh, 0, none⟩) hs.length hcp) := k0.cell 3
  have ls := k0.lt
  obtain ⟨gh', eg, -, lgh⟩ := R0.h.form
  obtain rfl : gh = gh' := by injection eg with eg; injection eg
  have ba := (Below.refl W.heap.size W).alloc (Nat.le_refl _) (.cells #[.int .i64 k, .int .i64 p, .int .i64 v, .int .i64 t, .int .i64 bb, .bool wn, .int .i64 0] 27)
  have k0a := k0.below ba k0.lt
  have k1a := k1.below ba k1.lt
  have Ra := R0.below ba
  have bla := below3 bl ba
  have y0 : _ = some (Value.slice mA ms.length mc) := k0a.cell 0
  have y1 : _ = some (Value.int .i64 0) := k0a.cell 1
  have y2 : _ = some (Value.int .i64 cap) := k0a.cell 2
  have lsa := k0a.lt
  have hst := step_any mA ms.length mc 0 cap ms ⟨k, p, v, t, bb, wn, 0⟩ _ Ra.m (by unfold Fit; omega) ⟨by omega, by have := hq.2.2.1; omega⟩ (HdF.of_may hm fv)
  have hsf : stepF ms 0 cap ⟨k, p, v, t, bb, wn, 0⟩ = (0, ms2, ⟨k2, p2, v2, t2, b2, wn2, s2⟩) := by
    unfold stepF
    rw [if_pos ⟨hm, hq⟩, if_pos rfl, Int.toNat_natCast, show (0 : Int).toNat = 0 from rfl, ha]
  rw [hsf] at hst
  unfold hv at hst
  have HST := Lib.hid hst
  have KA := Lib.hid k0a
  have K1A := Lib.hid k1a
  have RA := Lib.hid Ra
  have BLA := Lib.hid bla
  have HH := Lib.hid hh
  clear hW k0 k1 bl R0 ha7 ba k0a k1a Ra bla hst hsf hk hm fv ha R eg hh
  go_enter Try.func20, Try.ntmps20
  go_upto_region 1 with fail
  rw [HW.out]
  clear HW
  go_wp2_with fail
  refine HST.out.mono ?_
  rintro e w2 ⟨A2, c2', rfl, o2, b2'⟩
  have kq := KA.out.below b2' KA.out.lt
  have kr := K1A.out.below b2' K1A.out.lt
  have R2 := RA.out.below b2'
  have bl2 := below3 BLA.out b2'
  have ky := Bk.new w2 27 #[.int .i64 k2, .int .i64 p2, .int .i64 v2, .int .i64 t2, .int .i64 b2, .bool wn2, .int .i64 s2]
  have bb2 := (Below.refl w2.heap.size w2).alloc (Nat.le_refl _) (.cells #[.int .i64 k2, .int .i64 p2, .int .i64 v2, .int .i64 t2, .int .i64 b2, .bool wn2, .int .i64 s2] 27)
  have hw23 : (w2.alloc (.cells #[.int .i64 k2, .int .i64 p2, .int .i64 v2, .int .i64 t2, .int .i64 b2, .bool wn2, .int .i64 s2] 27)).heap.size = w2.heap.size + 1 := by simp
  have kqy := kq.below bb2 kq.lt
  have hsw : w.heap.size + 1 < w2.heap.size := kr.lt
  have kry := kr.below bb2 kr.lt
  have Ry := R2.below bb2
  have oy := o2.below bb2
  have bly := below3 bl2 bb2
  have q3 : _ = some (Value.slice (some ⟨gh, 0, none⟩) hs.length hcp) := kqy.cell 3
  have lqy := kqy.lt
  have HOWN := Lib.hid Ry.h
  have KQ := Lib.hid kqy
  have KR := Lib.hid kry
  have KY := Lib.hid ky
  have OY := Lib.hid oy.ints
  have OB := Lib.hid (oy.block (n := 0) (d := 0))
  have ol2 : ∀ a : Addr, A2 = some a → a.block < (w2.alloc (.cells #[.int .i64 k2, .int .i64 p2, .int .i64 v2, .int .i64 t2, .int .i64 b2, .bool wn2, .int .i64 s2] 27)).heap.size := fun a e => by subst e; exact (oy.2.2.lt a.block rfl).2
  have OL := Lib.hid ol2
  have GY := Lib.hid Ry.g
  have AB := Lib.hid (oy.ne_map Ry.g)
  have BY := Lib.hid bly
  have h0 : 0 < hs.length := by omega
  have hl10 : hs.length ≤ 1000 := by omega
  clear x0 x1 x2 x3 ls y0 y1 y2 lsa c0 c1 c2 c3 c4 c5 c6 lgh kq kr R2 bl2 ky bb2 kqy kry Ry oy ol2 bly o2 b2' HST KA K1A RA BLA
  simp only [hv]
  go_upto_region 20 with (at_builtin; go_loud (refine wpList_copyH _ rfl _ _ rfl rfl 0 gh hcp hs.length hs rfl rfl rfl HOWN.out h0 hl10 ?_; intro A4 c4' w4 oh4 bh4; obtain ⟨g4, rfl, hg4, hg4l⟩ := oh4.form; have kq4 := KQ.out.below bh4 KQ.out.lt; have kr4 := KR.out.below bh4 KR.out.lt; have ky4 := KY.out.below bh4 KY.out.lt; have m4 := OY.out.below bh4; have G4 := GY.out.below bh4; have bl4 := below3 BY.out bh4; rw [hw23] at hg4; have hbne : ∀ a, A2 = some a → a.block ≠ g4 := fun a e => by have := OL.out a e; omega))
  have hyb : w2.heap.size ≠ b := G4.ne_bk ky4
  have hbg : g4 ≠ b := by obtain ⟨gg, cs, e, -, hk, -, -⟩ := oh4; injection e with e; injection e with e _ _; subst e; exact G4.ne_bk hk
  have hsb : w.heap.size ≠ b := G4.ne_bk kq4
  have hrb : w.heap.size + 1 ≠ b := G4.ne_bk kr4
  obtain ⟨d7, fz⟩ := oh4.at_ hw
  rw [HH.out] at d7
  have d0 : _ = some (Value.int .i64 k) := d7 0 (by omega)
  have d1 : _ = some (Value.int .i64 p) := d7 1 (by omega)
  have d2 : _ = some (Value.int .i64 v) := d7 2 (by omega)
  have d3 : _ = some (Value.int .i64 t) := d7 3 (by omega)
  have d4 : _ = some (Value.int .i64 bb) := d7 4 (by omega)
  have d5 : _ = some (Value.bool wn) := d7 5 (by omega)
  have d6 : _ = some (Value.int .i64 0) := d7 6 (by omega)
  rw [Nat.add_zero] at d0
  have e0 := fz (who * 7)
  have e1 := fz (who * 7 + 1)
  have e2 := fz (who * 7 + 2)
  have e3 := fz (who * 7 + 3)
  have e4 := fz (who * 7 + 4)
  have e5 := fz (who * 7 + 5)
  have e6 := fz (who * 7 + 6)
  obtain ⟨z0, z1, z2, z3, z4, z5, z6⟩ := ky4.c7
  have ly := ky4.lt
  have oV := oh4.put hw ⟨k2, p2, v2, t2, b2, wn2, s2⟩
  have kqV := Bk.far7a (o := who * 7) kq4 (by omega : w.heap.size ≠ g4) (.int .i64 k2) (.int .i64 p2) (.int .i64 v2) (.int .i64 t2) (.int .i64 b2) (.bool wn2) (.int .i64 s2)
  have krV := Bk.far7a (o := who * 7) kr4 (by omega : w.heap.size + 1 ≠ g4) (.int .i64 k2) (.int .i64 p2) (.int .i64 v2) (.int .i64 t2) (.int .i64 b2) (.bool wn2) (.int .i64 s2)
  have kyV := Bk.far7a (o := who * 7) ky4 (by omega : w2.heap.size ≠ g4) (.int .i64 k2) (.int .i64 p2) (.int .i64 v2) (.int .i64 t2) (.int .i64 b2) (.bool wn2) (.int .i64 s2)
  have gV := grown_set7a w4 g4 (who * 7) (.int .i64 k2) (.int .i64 p2) (.int .i64 v2) (.int .i64 t2) (.int .i64 b2) (.bool wn2) (.int .i64 s2)
  have mV := m4.grown gV (fun a e e' => by injection e' with e'; exact hbne a e e')
  have GV := G4.grown gV (fun e => by injection e with e; exact hbg e.symm)
  have blV := below_set7a bl4 (by omega : w.heap.size ≤ g4) (who * 7) (.int .i64 k2) (.int .i64 p2) (.int .i64 v2) (.int .i64 t2) (.int .i64 b2) (.bool wn2) (.int .i64 s2)
  simp only at oV
  obtain ⟨V, hV⟩ : ∃ V, set7a w4 g4 (who * 7) (.int .i64 k2) (.int .i64 p2) (.int .i64 v2) (.int .i64 t2) (.int .i64 b2) (.bool wn2) (.int .i64 s2) = V := ⟨_, rfl⟩
  rw [hV] at oV kqV krV kyV mV GV blV
  unfold set7a at hV
  have HV := Lib.hid hV
  have OV := Lib.hid oV
  have KQV := Lib.hid kqV
  have KRV := Lib.hid krV
  have KYV := Lib.hid kyV
  have MV := Lib.hid mV
  have GVV := Lib.hid GV
  have BLV := Lib.hid blV
  clear hV d7 fz oV kqV krV kyV gV mV GV blV oh4 kq4 kr4 ky4 m4 G4 bl4 bh4 q3 lqy HOWN
  go_upto_region 21 with fail
  rw [HV.out]
  clear HV d0 d1 d2 d3 d4 d5 d6 e0 e1 e2 e3 e4 e5 e6 z0 z1 z2 z3 z4 z5 z6 ly
  have q3 : _ = some (Value.slice (some ⟨gh, 0, none⟩) hs.length hcp) := KQV.out.cell 3
  have q0 : _ = some (Value.slice mA ms.length mc) := KQV.out.cell 0
  have fq3 := KQV.out.frozen 3
  have fq0 := KQV.out.frozen 0
  have lq := KQV.out.lt
  have kqU := (KQV.out.set_ 3 (.slice (some ⟨g4, 0, none⟩) hs.length c4')).set_ 0 (.slice A2 ms2.length c2')
  have krU := (KRV.out.far (p := ⟨w.heap.size, 3, none⟩) (by simp) (.slice (some ⟨g4, 0, none⟩) hs.length c4')).far (p := ⟨w.heap.size, 0, none⟩) (by simp) (.slice A2 ms2.length c2')
  have hys : w2.heap.size ≠ w.heap.size := by omega
  have kyU := (KYV.out.far (p := ⟨w.heap.size, 3, none⟩) hys (.slice (some ⟨g4, 0, none⟩) hs.length c4')).far (p := ⟨w.heap.size, 0, none⟩) hys (.slice A2 ms2.length c2')
  have gU := (grown_set (w := V) (g := w.heap.size) (i := 3) (.slice (some ⟨g4, 0, none⟩) hs.length c4')).trans (grown_set (.slice A2 ms2.length c2') (i := 0))
  have hAs : ∀ a : Addr, A2 = some a → a.block ≠ w.heap.size := fun a e => by have h := OB.out a.block (by rw [e]; rfl); rw [size_alloc] at h; have := BLW.out.size; omega
  have mU := MV.out.grown gU (fun a e e' => by injection e' with e'; exact hAs a e e')
  have oU := OV.out.grown gU (fun k hk a e => by injection hk with hk; injection e with e; subst hk e; show g4 ≠ w.heap.size; omega)
  have GU := GVV.out.grown gU (fun e => by injection e with e; exact hsb e.symm)
  have blU := (BLV.out.setCell (p := ⟨w.heap.size, 3, none⟩) (Nat.le_refl _) (.slice (some ⟨g4, 0, none⟩) hs.length c4')).setCell (p := ⟨w.heap.size, 0, none⟩) (Nat.le_refl _) (.slice A2 ms2.length c2')
  obtain ⟨U, hU⟩ : ∃ U, (V.setCell ⟨w.heap.size, 3, none⟩ (.slice (some ⟨g4, 0, none⟩) hs.length c4')).setCell ⟨w.heap.size, 0, none⟩ (.slice A2 ms2.length c2') = U := ⟨_, rfl⟩
  rw [hU] at kqU krU kyU mU oU GU blU
  have HU := Lib.hid hU
  have KQU := Lib.hid kqU
  have KRU := Lib.hid krU
  have KYU := Lib.hid kyU
  have MU := Lib.hid mU
  have OU := Lib.hid oU
  have GU' := Lib.hid GU
  have BLU := Lib.hid blU
  clear hU kqU krU kyU gU hAs mU oU GU blU OV KQV KRV KYV MV GVV BLV
  go_upto_region 23 with fail
  rw [HU.out]
  clear HU q3 q0 fq3 fq0 lq
  obtain ⟨z0, z1, z2, z3, z4, z5, z6⟩ := KYU.out.c7
  have ly := KYU.out.lt
  have hb1 : (s2 == 3) = false := by simpa using hs3
  by_cases hs2 : s2 = 1
  · have hk2 : k2 = 1 := Classical.byContradiction fun e => hs1 ⟨hs2, e⟩
    have hb2 : (s2 == 1) = true := by simpa using hs2
    have hb3 : (k2 != 1) = false := by simp [hk2]
    clear hs1 hs3 hs2 hk2
    have kq : Bk U w.heap.size 49 #[.slice A2 ms2.length c2', .int .i64 0, .int .i64 cap, .slice (some ⟨g4, 0, none⟩) hs.length c4', .map (some b), .int .i64 nx, .int .i64 left, .bool false] := KQU.out
    have kr := KRU.out
    obtain ⟨x0, x1, x2, x3, x4, x5, x6, x7⟩ := kq.c8
    obtain ⟨y0, y1, y2, y3, y4, y5, y6, y7⟩ := kr.c8
    obtain ⟨g0, g1, g2, g3, g4', g5, g6, g7⟩ := kr.f8
    have lq := kq.lt
    have lr := kr.lt
    have K2 := Lib.hid (bk_set8 kr (.slice A2 ms2.length c2') (.int .i64 0) (.int .i64 cap) (.slice (some ⟨g4, 0, none⟩) hs.length c4') (.map (some b)) (.int .i64 nx) (.int .i64 left) (.bool false))
    have G8 := grown_set8 U (w.heap.size + 1) (.slice A2 ms2.length c2') (.int .i64 0) (.int .i64 cap) (.slice (some ⟨g4, 0, none⟩) hs.length c4') (.map (some b)) (.int .i64 nx) (.int .i64 left) (.bool false)
    have hA8 : ∀ a : Addr, A2 = some a → a.block ≠ w.heap.size + 1 := fun a e => by have h := OB.out a.block (by rw [e]; rfl); rw [size_alloc] at h; have := BLW.out.size; have := RLW.out; omega
    have M8 := Lib.hid (MU.out.grown G8 (fun a e e' => by injection e' with e'; exact hA8 a e e'))
    have O8 := Lib.hid (OU.out.grown G8 (fun k hk a e => by injection hk with hk; injection e with e; subst hk e; show g4 ≠ w.heap.size + 1; omega))
    have C8 := Lib.hid (GU'.out.grown G8 (fun e => by injection e with e; exact hrb e.symm))
    have B8 := Lib.hid (below_set8 BLU.out (by omega : w.heap.size ≤ w.heap.size + 1) (.slice A2 ms2.length c2') (.int .i64 0) (.int .i64 cap) (.slice (some ⟨g4, 0, none⟩) hs.length c4') (.map (some b)) (.int .i64 nx) (.int .i64 left) (.bool false))
    clear kq kr G8 hA8
    go_wp2
    obtain ⟨r0, r1, r2, r3, r4, r5, r6, r7⟩ := K2.out.c8
    unfold set8 at r0 r1 r2 r3 r4 r5 r6 r7
    exact bodyPost_ret (v := .agg #[.slice A2 ms2.length c2', .int .i64 0, .int .i64 cap, .slice (some ⟨g4, 0, none⟩) hs.length c4', .map (some b), .int .i64 nx, .int .i64 left, .bool false]) (by simp [results, Try.results20, go_sem, r0, r1, r2, r3, r4, r5, r6, r7]) rfl ⟨A2, c2', g4, c4', by unfold raceC; rw [List.length_set], ⟨M8.out, O8.out.base_ (Nat.zero_le _), C8.out⟩, Below.gb B8.out⟩
  · have hb2 : (s2 == 1) = false := by simpa using hs2
    clear hs1 hs3 hs2
    have kq : Bk U w.heap.size 49 #[.slice A2 ms2.length c2', .int .i64 0, .int .i64 cap, .slice (some ⟨g4, 0, none⟩) hs.length c4', .map (some b), .int .i64 nx, .int .i64 left, .bool false] := KQU.out
    have kr := KRU.out
    obtain ⟨x0, x1, x2, x3, x4, x5, x6, x7⟩ := kq.c8
    obtain ⟨y0, y1, y2, y3, y4, y5, y6, y7⟩ := kr.c8
    obtain ⟨g0, g1, g2, g3, g4', g5, g6, g7⟩ := kr.f8
    have lq := kq.lt
    have lr := kr.lt
    have K2 := Lib.hid (bk_set8 kr (.slice A2 ms2.length c2') (.int .i64 0) (.int .i64 cap) (.slice (some ⟨g4, 0, none⟩) hs.length c4') (.map (some b)) (.int .i64 nx) (.int .i64 left) (.bool false))
    have G8 := grown_set8 U (w.heap.size + 1) (.slice A2 ms2.length c2') (.int .i64 0) (.int .i64 cap) (.slice (some ⟨g4, 0, none⟩) hs.length c4') (.map (some b)) (.int .i64 nx) (.int .i64 left) (.bool false)
    have hA8 : ∀ a : Addr, A2 = some a → a.block ≠ w.heap.size + 1 := fun a e => by have h := OB.out a.block (by rw [e]; rfl); rw [size_alloc] at h; have := BLW.out.size; have := RLW.out; omega
    have M8 := Lib.hid (MU.out.grown G8 (fun a e e' => by injection e' with e'; exact hA8 a e e'))
    have O8 := Lib.hid (OU.out.grown G8 (fun k hk a e => by injection hk with hk; injection e with e; subst hk e; show g4 ≠ w.heap.size + 1; omega))
    have C8 := Lib.hid (GU'.out.grown G8 (fun e => by injection e with e; exact hrb e.symm))
    have B8 := Lib.hid (below_set8 BLU.out (by omega : w.heap.size ≤ w.heap.size + 1) (.slice A2 ms2.length c2') (.int .i64 0) (.int .i64 cap) (.slice (some ⟨g4, 0, none⟩) hs.length c4') (.map (some b)) (.int .i64 nx) (.int .i64 left) (.bool false))
    clear kq kr G8 hA8
    go_wp2
    obtain ⟨r0, r1, r2, r3, r4, r5, r6, r7⟩ := K2.out.c8
    unfold set8 at r0 r1 r2 r3 r4 r5 r6 r7
    exact bodyPost_ret (v := .agg #[.slice A2 ms2.length c2', .int .i64 0, .int .i64 cap, .slice (some ⟨g4, 0, none⟩) hs.length c4', .map (some b), .int .i64 nx, .int .i64 left, .bool false]) (by simp [results, Try.results20, go_sem, r0, r1, r2, r3, r4, r5, r6, r7]) rfl ⟨A2, c2', g4, c4', by unfold raceC; rw [List.length_set], ⟨M8.out, O8.out.base_ (Nat.zero_le _), C8.out⟩, Below.gb B8.out⟩

set_option maxHeartbeats 4000000 in
theorem stp_go1 (mA : Option Addr) (mc : Nat) (ms : List Int) (gh hcp : Nat) (hs : List Hd) (b n : Nat) (G : Int → Nat) (cap nx left who : Nat) (pops : Bool) (w : World) (R : RcI w mA ms gh hs b n G) (hw : who < hs.length) (hl : hs.length ≤ 10) (hq : MayQ ms.length 0 cap)
    (k p v t bb : Int) (wn : Bool) (hh : hth hs who = ⟨k, p, v, t, bb, wn, 0⟩) (hk : k ≠ 0) (hm : MayH ⟨k, p, v, t, bb, wn, 0⟩) (fv : Fit v) (ms2 : List Int) (k2 p2 v2 t2 b2 : Int) (wn2 : Bool) (s2 : Int) (ha : accF ms 0 cap ⟨k, p, v, t, bb, wn, 0⟩ = some (ms2, ⟨k2, p2, v2, t2, b2, wn2, s2⟩)) (hs2 : s2 = 1) (hk2 : k2 ≠ 1) (fv2 : Fit v2) (hn : n < 2000) (hG : G v2 < 2000) :
    Calls Try.prog 20 #[.agg #[.slice mA ms.length mc, .int .i64 0, .int .i64 cap, .slice (some ⟨gh, 0, none⟩) hs.length hcp, .map (some b), .int .i64 nx, .int .i64 left, .bool false], .int .i64 who, .bool pops] w (StpOf cap b (n + 1) w ms2 (hs.set who ⟨k2, p2, v2, t2, b2, wn2, s2⟩) (gotF G v2) nx left) := by
  have HS2 := Lib.hid hs2
  have HK2 := Lib.hid hk2
  clear hs2 hk2
  have k0 := (Bk.new w 49 #[.slice mA ms.length mc, .int .i64 0, .int .i64 cap, .slice (some ⟨gh, 0, none⟩) hs.length hcp, .map (some b), .int .i64 nx, .int .i64 left, .bool false]).alloc (.cells #[.slice none 0 0, .int .i64 0, .int .i64 0, .slice none 0 0, .map none, .int .i64 0, .int .i64 0, .bool false] 49)
  have k1 := Bk.new (w.alloc (.cells #[.slice mA ms.length mc, .int .i64 0, .int .i64 cap, .slice (some ⟨gh, 0, none⟩) hs.length hcp, .map (some b), .int .i64 nx, .int .i64 left, .bool false] 49)) 49 #[.slice none 0 0, .int .i64 0, .int .i64 0, .slice none 0 0, .map none, .int .i64 0, .int .i64 0, .bool false]
  rw [size_alloc] at k1
  have bl := two_boxes w #[.slice mA ms.length mc, .int .i64 0, .int .i64 cap, .slice (some ⟨gh, 0, none⟩) hs.length hcp, .map (some b), .int .i64 nx, .int .i64 left, .bool false] #[.slice none 0 0, .int .i64 0, .int .i64 0, .slice none 0 0, .map none, .int .i64 0, .int .i64 0, .bool false] 49 49
  obtain ⟨W, hW⟩ : ∃ W, (w.alloc (.cells #[.slice mA ms.length mc, .int .i64 0, .int .i64 cap, .slice (some ⟨gh, 0, none⟩) hs.length hcp, .map (some b), .int .i64 nx, .int .i64 left, .bool false] 49)).alloc (.cells #[.slice none 0 0, .int .i64 0, .int .i64 0, .slice none 0 0, .map none, .int .i64 0, .int .i64 0, .bool false] 49) = W := ⟨_, rfl⟩
  rw [hW] at k0 k1 bl
  have HW := Lib.hid hW
  have BLW := Lib.hid bl
  have RLW : Hid (w.heap.size + 1 < W.heap.size) := Lib.hid k1.lt
  have R0 := R.below bl
  have hkb : (k == 0) = false := by simpa using hk
  have ha7 := (R0.h.at_ hw).1
  rw [hh] at ha7
  have c0 : _ = some (Value.int .i64 k) := ha7 0 (by omega)
  have c1 : _ = some (Value.int .i64 p) := ha7 1 (by omega)
  have c2 : _ = some (Value.int .i64 v) := ha7 2 (by omega)
  have c3 : _ = some (Value.int .i64 t) := ha7 3 (by omega)
  have c4 : _ = some (Value.int .i64 bb) := ha7 4 (by omega)
  have c5 : _ = some (Value.bool wn) := ha7 5 (by omega)
  have c6 : _ = some (Value.int .i64 0) := ha7 6 (by omega)
  rw [Nat.add_zero] at c0
  have x0 : _ = some (Value.slice mA ms.length mc) := k0.cell 0
  have x1 : _ = some (Value.int .i64 0) := k0.cell 1
  have x2 : _ = some (Value.int .i64 cap) := k0.cell 2
  have x3 : _ = some (Value.slice (some ⟨gh, 0, none⟩) hs.length hcp) := k0.cell 3
  have ls := k0.lt
  obtain ⟨gh', eg, -, lgh⟩ := R0.h.form
  obtain rfl : gh = gh' := by injection eg with eg; injection eg
  have ba := (Below.refl W.heap.size W).alloc (Nat.le_refl _) (.cells #[.int .i64 k, .int .i64 p, .int .i64 v, .int .i64 t, .int .i64 bb, .bool wn, .int .i64 0] 27)
  have k0a := k0.below ba k0.lt
  have k1a := k1.below ba k1.lt
  have Ra := R0.below ba
  have bla := below3 bl ba
  have y0 : _ = some (Value.slice mA ms.length mc) := k0a.cell 0
  have y1 : _ = some (Value.int .i64 0) := k0a.cell 1
  have y2 : _ = some (Value.int .i64 cap) := k0a.cell 2
  have lsa := k0a.lt
  have hst := step_any mA ms.length mc 0 cap ms ⟨k, p, v, t, bb, wn, 0⟩ _ Ra.m (by unfold Fit; omega) ⟨by omega, by have := hq.2.2.1; omega⟩ (HdF.of_may hm fv)
  have hsf : stepF ms 0 cap ⟨k, p, v, t, bb, wn, 0⟩ = (0, ms2, ⟨k2, p2, v2, t2, b2, wn2, s2⟩) := by
    unfold stepF
    rw [if_pos ⟨hm, hq⟩, if_pos rfl, Int.toNat_natCast, show (0 : Int).toNat = 0 from rfl, ha]
  rw [hsf] at hst
  unfold hv at hst
  have HST := Lib.hid hst
  have KA := Lib.hid k0a
  have K1A := Lib.hid k1a
  have RA := Lib.hid Ra
  have BLA := Lib.hid bla
  have HH := Lib.hid hh
  clear hW k0 k1 bl R0 ha7 ba k0a k1a Ra bla hst hsf hk hm fv ha R eg hh
  go_enter Try.func20, Try.ntmps20
  go_upto_region 1 with fail
  rw [HW.out]
  clear HW
  go_wp2_with fail
  refine HST.out.mono ?_
  rintro e w2 ⟨A2, c2', rfl, o2, b2'⟩
  have kq := KA.out.below b2' KA.out.lt
  have kr := K1A.out.below b2' K1A.out.lt
  have R2 := RA.out.below b2'
  have bl2 := below3 BLA.out b2'
  have ky := Bk.new w2 27 #[.int .i64 k2, .int .i64 p2, .int .i64 v2, .int .i64 t2, .int .i64 b2, .bool wn2, .int .i64 s2]
  have bb2 := (Below.refl w2.heap.size w2).alloc (Nat.le_refl _) (.cells #[.int .i64 k2, .int .i64 p2, .int .i64 v2, .int .i64 t2, .int .i64 b2, .bool wn2, .int .i64 s2] 27)
  have hw23 : (w2.alloc (.cells #[.int .i64 k2, .int .i64 p2, .int .i64 v2, .int .i64 t2, .int .i64 b2, .bool wn2, .int .i64 s2] 27)).heap.size = w2.heap.size + 1 := by simp
  have kqy := kq.below bb2 kq.lt
  have hsw : w.heap.size + 1 < w2.heap.size := kr.lt
  have kry := kr.below bb2 kr.lt
  have Ry := R2.below bb2
  have oy := o2.below bb2
  have bly := below3 bl2 bb2
  have q3 : _ = some (Value.slice (some ⟨gh, 0, none⟩) hs.length hcp) := kqy.cell 3
  have lqy := kqy.lt
  have HOWN := Lib.hid Ry.h
  have KQ := Lib.hid kqy
  have KR := Lib.hid kry
  have KY := Lib.hid ky
  have OY := Lib.hid oy.ints
  have OB := Lib.hid (oy.block (n := 0) (d := 0))
  have ol2 : ∀ a : Addr, A2 = some a → a.block < (w2.alloc (.cells #[.int .i64 k2, .int .i64 p2, .int .i64 v2, .int .i64 t2, .int .i64 b2, .bool wn2, .int .i64 s2] 27)).heap.size := fun a e => by subst e; exact (oy.2.2.lt a.block rfl).2
  have OL := Lib.hid ol2
  have GY := Lib.hid Ry.g
  have AB := Lib.hid (oy.ne_map Ry.g)
  have BY := Lib.hid bly
  have h0 : 0 < hs.length := by omega
  have hl10 : hs.length ≤ 1000 := by omega
  clear x0 x1 x2 x3 ls y0 y1 y2 lsa c0 c1 c2 c3 c4 c5 c6 lgh kq kr R2 bl2 ky bb2 kqy kry Ry oy ol2 bly o2 b2' HST KA K1A RA BLA
  simp only [hv]
  go_upto_region 20 with (at_builtin; go_loud (refine wpList_copyH _ rfl _ _ rfl rfl 0 gh hcp hs.length hs rfl rfl rfl HOWN.out h0 hl10 ?_; intro A4 c4' w4 oh4 bh4; obtain ⟨g4, rfl, hg4, hg4l⟩ := oh4.form; have kq4 := KQ.out.below bh4 KQ.out.lt; have kr4 := KR.out.below bh4 KR.out.lt; have ky4 := KY.out.below bh4 KY.out.lt; have m4 := OY.out.below bh4; have G4 := GY.out.below bh4; have bl4 := below3 BY.out bh4; rw [hw23] at hg4; have hbne : ∀ a, A2 = some a → a.block ≠ g4 := fun a e => by have := OL.out a e; omega))
  have hyb : w2.heap.size ≠ b := G4.ne_bk ky4
  have hbg : g4 ≠ b := by obtain ⟨gg, cs, e, -, hk, -, -⟩ := oh4; injection e with e; injection e with e _ _; subst e; exact G4.ne_bk hk
  have hsb : w.heap.size ≠ b := G4.ne_bk kq4
  have hrb : w.heap.size + 1 ≠ b := G4.ne_bk kr4
  obtain ⟨d7, fz⟩ := oh4.at_ hw
  rw [HH.out] at d7
  have d0 : _ = some (Value.int .i64 k) := d7 0 (by omega)
  have d1 : _ = some (Value.int .i64 p) := d7 1 (by omega)
  have d2 : _ = some (Value.int .i64 v) := d7 2 (by omega)
  have d3 : _ = some (Value.int .i64 t) := d7 3 (by omega)
  have d4 : _ = some (Value.int .i64 bb) := d7 4 (by omega)
  have d5 : _ = some (Value.bool wn) := d7 5 (by omega)
  have d6 : _ = some (Value.int .i64 0) := d7 6 (by omega)
  rw [Nat.add_zero] at d0
  have e0 := fz (who * 7)
  have e1 := fz (who * 7 + 1)
  have e2 := fz (who * 7 + 2)
  have e3 := fz (who * 7 + 3)
  have e4 := fz (who * 7 + 4)
  have e5 := fz (who * 7 + 5)
  have e6 := fz (who * 7 + 6)
  obtain ⟨z0, z1, z2, z3, z4, z5, z6⟩ := ky4.c7
  have ly := ky4.lt
  have oV := oh4.put hw ⟨k2, p2, v2, t2, b2, wn2, s2⟩
  have kqV := Bk.far7a (o := who * 7) kq4 (by omega : w.heap.size ≠ g4) (.int .i64 k2) (.int .i64 p2) (.int .i64 v2) (.int .i64 t2) (.int .i64 b2) (.bool wn2) (.int .i64 s2)
  have krV := Bk.far7a (o := who * 7) kr4 (by omega : w.heap.size + 1 ≠ g4) (.int .i64 k2) (.int .i64 p2) (.int .i64 v2) (.int .i64 t2) (.int .i64 b2) (.bool wn2) (.int .i64 s2)
  have kyV := Bk.far7a (o := who * 7) ky4 (by omega : w2.heap.size ≠ g4) (.int .i64 k2) (.int .i64 p2) (.int .i64 v2) (.int .i64 t2) (.int .i64 b2) (.bool wn2) (.int .i64 s2)
  have gV := grown_set7a w4 g4 (who * 7) (.int .i64 k2) (.int .i64 p2) (.int .i64 v2) (.int .i64 t2) (.int .i64 b2) (.bool wn2) (.int .i64 s2)
  have mV := m4.grown gV (fun a e e' => by injection e' with e'; exact hbne a e e')
  have GV := G4.grown gV (fun e => by injection e with e; exact hbg e.symm)
  have blV := below_set7a bl4 (by omega : w.heap.size ≤ g4) (who * 7) (.int .i64 k2) (.int .i64 p2) (.int .i64 v2) (.int .i64 t2) (.int .i64 b2) (.bool wn2) (.int .i64 s2)
  simp only at oV
  obtain ⟨V, hV⟩ : ∃ V, set7a w4 g4 (who * 7) (.int .i64 k2) (.int .i64 p2) (.int .i64 v2) (.int .i64 t2) (.int .i64 b2) (.bool wn2) (.int .i64 s2) = V := ⟨_, rfl⟩
  rw [hV] at oV kqV krV kyV mV GV blV
  unfold set7a at hV
  have HV := Lib.hid hV
  have OV := Lib.hid oV
  have KQV := Lib.hid kqV
  have KRV := Lib.hid krV
  have KYV := Lib.hid kyV
  have MV := Lib.hid mV
  have GVV := Lib.hid GV
  have BLV := Lib.hid blV
  clear hV d7 fz oV kqV krV kyV gV mV GV blV oh4 kq4 kr4 ky4 m4 G4 bl4 bh4 q3 lqy HOWN
  go_upto_region 21 with fail
  rw [HV.out]
  clear HV d0 d1 d2 d3 d4 d5 d6 e0 e1 e2 e3 e4 e5 e6 z0 z1 z2 z3 z4 z5 z6 ly
  have q3 : _ = some (Value.slice (some ⟨gh, 0, none⟩) hs.length hcp) := KQV.out.cell 3
  have q0 : _ = some (Value.slice mA ms.length mc) := KQV.out.cell 0
  have fq3 := KQV.out.frozen 3
  have fq0 := KQV.out.frozen 0
  have lq := KQV.out.lt
  have kqU := (KQV.out.set_ 3 (.slice (some ⟨g4, 0, none⟩) hs.length c4')).set_ 0 (.slice A2 ms2.length c2')
  have krU := (KRV.out.far (p := ⟨w.heap.size, 3, none⟩) (by simp) (.slice (some ⟨g4, 0, none⟩) hs.length c4')).far (p := ⟨w.heap.size, 0, none⟩) (by simp) (.slice A2 ms2.length c2')
  have hys : w2.heap.size ≠ w.heap.size := by omega
  have kyU := (KYV.out.far (p := ⟨w.heap.size, 3, none⟩) hys (.slice (some ⟨g4, 0, none⟩) hs.length c4')).far (p := ⟨w.heap.size, 0, none⟩) hys (.slice A2 ms2.length c2')
  have gU := (grown_set (w := V) (g := w.heap.size) (i := 3) (.slice (some ⟨g4, 0, none⟩) hs.length c4')).trans (grown_set (.slice A2 ms2.length c2') (i := 0))
  have hAs : ∀ a : Addr, A2 = some a → a.block ≠ w.heap.size := fun a e => by have h := OB.out a.block (by rw [e]; rfl); rw [size_alloc] at h; have := BLW.out.size; omega
  have mU := MV.out.grown gU (fun a e e' => by injection e' with e'; exact hAs a e e')
  have oU := OV.out.grown gU (fun k hk a e => by injection hk with hk; injection e with e; subst hk e; show g4 ≠ w.heap.size; omega)
  have GU := GVV.out.grown gU (fun e => by injection e with e; exact hsb e.symm)
  have blU := (BLV.out.setCell (p := ⟨w.heap.size, 3, none⟩) (Nat.le_refl _) (.slice (some ⟨g4, 0, none⟩) hs.length c4')).setCell (p := ⟨w.heap.size, 0, none⟩) (Nat.le_refl _) (.slice A2 ms2.length c2')
  obtain ⟨U, hU⟩ : ∃ U, (V.setCell ⟨w.heap.size, 3, none⟩ (.slice (some ⟨g4, 0, none⟩) hs.length c4')).setCell ⟨w.heap.size, 0, none⟩ (.slice A2 ms2.length c2') = U := ⟨_, rfl⟩
  rw [hU] at kqU krU kyU mU oU GU blU
  have HU := Lib.hid hU
  have KQU := Lib.hid kqU
  have KRU := Lib.hid krU
  have KYU := Lib.hid kyU
  have MU := Lib.hid mU
  have OU := Lib.hid oU
  have GU' := Lib.hid GU
  have BLU := Lib.hid blU
  clear hU kqU krU kyU gU hAs mU oU GU blU OV KQV KRV KYV MV GVV BLV
  go_upto_region 23 with fail
  rw [HU.out]
  clear HU q3 q0 fq3 fq0 lq
  obtain ⟨z0, z1, z2, z3, z4, z5, z6⟩ := KYU.out.c7
  have ly := KYU.out.lt
  have t1b : (s2 == 1) = true := by simp [HS2.out]
  have t2b : (k2 != 1) = true := by simpa using HK2.out
  have t3b : (s2 == 3) = false := by simp [HS2.out]
  have hlk := GU'.out.lookup fv2
  obtain ⟨U3, hupd, C3, g3⟩ := GU'.out.update fv2 hn hG
  have hwp : IntKind.i64.wrap (((G v2 : Nat) : Int) + 1) = ((G v2 : Nat) : Int) + 1 := by rw [IntKind.wrap_i64]; omega
  have kq : Bk U3 w.heap.size 49 #[.slice A2 ms2.length c2', .int .i64 0, .int .i64 cap, .slice (some ⟨g4, 0, none⟩) hs.length c4', .map (some b), .int .i64 nx, .int .i64 left, .bool false] := KQU.out.grown g3 (fun e => by injection e with e; exact hsb e)
  have kr := KRU.out.grown g3 (fun e => by injection e with e; exact hrb e)
  have ky := KYU.out.grown g3 (fun e => by injection e with e; exact hyb e)
  have M3 := MU.out.grown g3 (fun a e e' => by injection e' with e'; exact AB.out a e e')
  have O3 := OU.out.grown g3 (fun k hk a e => by injection hk with hk; injection e with e; subst hk e; exact hbg)
  have w6 : _ = some (Value.int .i64 s2) := ky.cell 6
  have lw := ky.lt
  obtain ⟨x0, x1, x2, x3, x4, x5, x6, x7⟩ := kq.c8
  obtain ⟨y0, y1, y2, y3, y4, y5, y6, y7⟩ := kr.c8
  obtain ⟨g0, g1, g2, g3', g4', g5, g6, g7⟩ := kr.f8
  have lq := kq.lt
  have lr := kr.lt
  have u4 : _ = some (Value.map (some b)) := KQU.out.cell 4
  have lu := KQU.out.lt
  have K2 := Lib.hid (bk_set8 kr (.slice A2 ms2.length c2') (.int .i64 0) (.int .i64 cap) (.slice (some ⟨g4, 0, none⟩) hs.length c4') (.map (some b)) (.int .i64 nx) (.int .i64 left) (.bool false))
  have G8 := grown_set8 U3 (w.heap.size + 1) (.slice A2 ms2.length c2') (.int .i64 0) (.int .i64 cap) (.slice (some ⟨g4, 0, none⟩) hs.length c4') (.map (some b)) (.int .i64 nx) (.int .i64 left) (.bool false)
  have hA8 : ∀ a : Addr, A2 = some a → a.block ≠ w.heap.size + 1 := fun a e => by have h := OB.out a.block (by rw [e]; rfl); rw [size_alloc] at h; have := BLW.out.size; have := RLW.out; omega
  have M8 := Lib.hid (M3.grown G8 (fun a e e' => by injection e' with e'; exact hA8 a e e'))
  have O8 := Lib.hid (O3.grown G8 (fun k hk a e => by injection hk with hk; injection e with e; subst hk e; show g4 ≠ w.heap.size + 1; omega))
  have C8 := Lib.hid (C3.grown G8 (fun e => by injection e with e; exact hrb e.symm))
  have B8 := Lib.hid (World.grownBy.andThen ((Below.gb BLU.out (row := some b)).trans g3) G8 (fun j hj => .inl (by injection hj with hj; omega)))
  clear kq kr ky M3 O3 C3 g3 G8 hA8
  go_wp2
  obtain ⟨r0, r1, r2, r3, r4, r5, r6, r7⟩ := K2.out.c8
  unfold set8 at r0 r1 r2 r3 r4 r5 r6 r7
  exact bodyPost_ret (v := .agg #[.slice A2 ms2.length c2', .int .i64 0, .int .i64 cap, .slice (some ⟨g4, 0, none⟩) hs.length c4', .map (some b), .int .i64 nx, .int .i64 left, .bool false]) (by simp [results, Try.results20, go_sem, r0, r1, r2, r3, r4, r5, r6, r7]) rfl ⟨A2, c2', g4, c4', by unfold raceC; rw [List.length_set], ⟨M8.out, O8.out.base_ (Nat.zero_le _), C8.out⟩, B8.out⟩

set_option maxHeartbeats 4000000 in
theorem stp_go3 (mA : Option Addr) (mc : Nat) (ms : List Int) (gh hcp : Nat) (hs : List Hd) (b n : Nat) (G : Int → Nat) (cap nx left who : Nat) (pops : Bool) (w : World) (R : RcI w mA ms gh hs b n G) (hw : who < hs.length) (hl : hs.length ≤ 10) (hq : MayQ ms.length 0 cap)
    (k p v t bb : Int) (wn : Bool) (hh : hth hs who = ⟨k, p, v, t, bb, wn, 0⟩) (hk : k ≠ 0) (hm : MayH ⟨k, p, v, t, bb, wn, 0⟩) (fv : Fit v) (ms2 : List Int) (k2 p2 v2 t2 b2 : Int) (wn2 : Bool) (s2 : Int) (ha : accF ms 0 cap ⟨k, p, v, t, bb, wn, 0⟩ = some (ms2, ⟨k2, p2, v2, t2, b2, wn2, s2⟩)) (hs3 : s2 = 3) (fv2 : Fit v2) (hn : n < 2000) (hG : G v2 < 2000) :
    Calls Try.prog 20 #[.agg #[.slice mA ms.length mc, .int .i64 0, .int .i64 cap, .slice (some ⟨gh, 0, none⟩) hs.length hcp, .map (some b), .int .i64 nx, .int .i64 left, .bool false], .int .i64 who, .bool pops] w (StpOf cap b (n + 1) w ms2 (hs.set who ⟨k2, p2, v2, t2, b2, wn2, s2⟩) (gotF G v2) nx left) := by
  have HS3 := Lib.hid hs3
  clear hs3
  have k0 := (Bk.new w 49 #[.slice mA ms.length mc, .int .i64 0, .int .i64 cap, .slice (some ⟨gh, 0, none⟩) hs.length hcp, .map (some b), .int .i64 nx, .int .i64 left, .bool false]).alloc (.cells #[.slice none 0 0, .int .i64 0, .int .i64 0, .slice none 0 0, .map none, .int .i64 0, .int .i64 0, .bool false] 49)
  have k1 := Bk.new (w.alloc (.cells #[.slice mA ms.length mc, .int .i64 0, .int .i64 cap, .slice (some ⟨gh, 0, none⟩) hs.length hcp, .map (some b), .int .i64 nx, .int .i64 left, .bool false] 49)) 49 #[.slice none 0 0, .int .i64 0, .int .i64 0, .slice none 0 0, .map none, .int .i64 0, .int .i64 0, .bool false]
  rw [size_alloc] at k1
  have bl := two_boxes w #[.slice mA ms.length mc, .int .i64 0, .int .i64 cap, .slice (some ⟨gh, 0, none⟩) hs.length hcp, .map (some b), .int .i64 nx, .int .i64 left, .bool false] #[.slice none 0 0, .int .i64 0, .int .i64 0, .slice none 0 0, .map none, .int .i64 0, .int .i64 0, .bool false] 49 49
  obtain ⟨W, hW⟩ : ∃ W, (w.alloc (.cells #[.slice mA ms.length mc, .int .i64 0, .int .i64 cap, .slice (some ⟨gh, 0, none⟩) hs.length hcp, .map (some b), .int .i64 nx, .int .i64 left, .bool false] 49)).alloc (.cells #[.slice none 0 0, .int .i64 0, .int .i64 0, .slice none 0 0, .map none, .int .i64 0, .int .i64 0, .bool false] 49) = W := ⟨_, rfl⟩
  rw [hW] at k0 k1 bl
  have HW := Lib.hid hW
  have BLW := Lib.hid bl
  have RLW : Hid (w.heap.size + 1 < W.heap.size) := Lib.hid k1.lt
  have R0 := R.below bl
  have hkb : (k == 0) = false := by simpa using hk
  have ha7 := (R0.h.at_ hw).1
  rw [hh] at ha7
  have c0 : _ = some (Value.int .i64 k) := ha7 0 (by omega)
  have c1 : _ = some (Value.int .i64 p) := ha7 1 (by omega)
  have c2 : _ = some (Value.int .i64 v) := ha7 2 (by omega)
  have c3 : _ = some (Value.int .i64 t) := ha7 3 (by omega)
  have c4 : _ = some (Value.int .i64 bb) := ha7 4 (by omega)
  have c5 : _ = some (Value.bool wn) := ha7 5 (by omega)
  have c6 : _ = some (Value.int .i64 0) := ha7 6 (by omega)
  rw [Nat.add_zero] at c0
  have x0 : _ = some (Value.slice mA ms.length mc) := k0.cell 0
  have x1 : _ = some (Value.int .i64 0) := k0.cell 1
  have x2 : _ = some (Value.int .i64 cap) := k0.cell 2
  have x3 : _ = some (Value.slice (some ⟨gh, 0, none⟩) hs.length hcp) := k0.cell 3
  have ls := k0.lt
  obtain ⟨gh', eg, -, lgh⟩ := R0.h.form
  obtain rfl : gh = gh' := by injection eg with eg; injection eg
  have ba := (Below.refl W.heap.size W).alloc (Nat.le_refl _) (.cells #[.int .i64 k, .int .i64 p, .int .i64 v, .int .i64 t, .int .i64 bb, .bool wn, .int .i64 0] 27)
  have k0a := k0.below ba k0.lt
  have k1a := k1.below ba k1.lt
  have Ra := R0.below ba
  have bla := below3 bl ba
  have y0 : _ = some (Value.slice mA ms.length mc) := k0a.cell 0
  have y1 : _ = some (Value.int .i64 0) := k0a.cell 1
  have y2 : _ = some (Value.int .i64 cap) := k0a.cell 2
  have lsa := k0a.lt
  have hst := step_any mA ms.length mc 0 cap ms ⟨k, p, v, t, bb, wn, 0⟩ _ Ra.m (by unfold Fit; omega) ⟨by omega, by have := hq.2.2.1; omega⟩ (HdF.of_may hm fv)
  have hsf : stepF ms 0 cap ⟨k, p, v, t, bb, wn, 0⟩ = (0, ms2, ⟨k2, p2, v2, t2, b2, wn2, s2⟩) := by
    unfold stepF
    rw [if_pos ⟨hm, hq⟩, if_pos rfl, Int.toNat_natCast, show (0 : Int).toNat = 0 from rfl, ha]
  rw [hsf] at hst
  unfold hv at hst
  have HST := Lib.hid hst
  have KA := Lib.hid k0a
  have K1A := Lib.hid k1a
  have RA := Lib.hid Ra
  have BLA := Lib.hid bla
  have HH := Lib.hid hh
  clear hW k0 k1 bl R0 ha7 ba k0a k1a Ra bla hst hsf hk hm fv ha R eg hh
  go_enter Try.func20, Try.ntmps20
  go_upto_region 1 with fail
  rw [HW.out]
  clear HW
  go_wp2_with fail
  refine HST.out.mono ?_
  rintro e w2 ⟨A2, c2', rfl, o2, b2'⟩
  have kq := KA.out.below b2' KA.out.lt
  have kr := K1A.out.below b2' K1A.out.lt
  have R2 := RA.out.below b2'
  have bl2 := below3 BLA.out b2'
  have ky := Bk.new w2 27 #[.int .i64 k2, .int .i64 p2, .int .i64 v2, .int .i64 t2, .int .i64 b2, .bool wn2, .int .i64 s2]
  have bb2 := (Below.refl w2.heap.size w2).alloc (Nat.le_refl _) (.cells #[.int .i64 k2, .int .i64 p2, .int .i64 v2, .int .i64 t2, .int .i64 b2, .bool wn2, .int .i64 s2] 27)
  have hw23 : (w2.alloc (.cells #[.int .i64 k2, .int .i64 p2, .int .i64 v2, .int .i64 t2, .int .i64 b2, .bool wn2, .int .i64 s2] 27)).heap.size = w2.heap.size + 1 := by simp
  have kqy := kq.below bb2 kq.lt
  have hsw : w.heap.size + 1 < w2.heap.size := kr.lt
  have kry := kr.below bb2 kr.lt
  have Ry := R2.below bb2
  have oy := o2.below bb2
  have bly := below3 bl2 bb2
  have q3 : _ = some (Value.slice (some ⟨gh, 0, none⟩) hs.length hcp) := kqy.cell 3
  have lqy := kqy.lt
  have HOWN := Lib.hid Ry.h
  have KQ := Lib.hid kqy
  have KR := Lib.hid kry
  have KY := Lib.hid ky
  have OY := Lib.hid oy.ints
  have OB := Lib.hid (oy.block (n := 0) (d := 0))
  have ol2 : ∀ a : Addr, A2 = some a → a.block < (w2.alloc (.cells #[.int .i64 k2, .int .i64 p2, .int .i64 v2, .int .i64 t2, .int .i64 b2, .bool wn2, .int .i64 s2] 27)).heap.size := fun a e => by subst e; exact (oy.2.2.lt a.block rfl).2
  have OL := Lib.hid ol2
  have GY := Lib.hid Ry.g
  have AB := Lib.hid (oy.ne_map Ry.g)
  have BY := Lib.hid bly
  have h0 : 0 < hs.length := by omega
  have hl10 : hs.length ≤ 1000 := by omega
  clear x0 x1 x2 x3 ls y0 y1 y2 lsa c0 c1 c2 c3 c4 c5 c6 lgh kq kr R2 bl2 ky bb2 kqy kry Ry oy ol2 bly o2 b2' HST KA K1A RA BLA
  simp only [hv]
  go_upto_region 20 with (at_builtin; go_loud (refine wpList_copyH _ rfl _ _ rfl rfl 0 gh hcp hs.length hs rfl rfl rfl HOWN.out h0 hl10 ?_; intro A4 c4' w4 oh4 bh4; obtain ⟨g4, rfl, hg4, hg4l⟩ := oh4.form; have kq4 := KQ.out.below bh4 KQ.out.lt; have kr4 := KR.out.below bh4 KR.out.lt; have ky4 := KY.out.below bh4 KY.out.lt; have m4 := OY.out.below bh4; have G4 := GY.out.below bh4; have bl4 := below3 BY.out bh4; rw [hw23] at hg4; have hbne : ∀ a, A2 = some a → a.block ≠ g4 := fun a e => by have := OL.out a e; omega))
  have hyb : w2.heap.size ≠ b := G4.ne_bk ky4
  have hbg : g4 ≠ b := by obtain ⟨gg, cs, e, -, hk, -, -⟩ := oh4; injection e with e; injection e with e _ _; subst e; exact G4.ne_bk hk
  have hsb : w.heap.size ≠ b := G4.ne_bk kq4
  have hrb : w.heap.size + 1 ≠ b := G4.ne_bk kr4
  obtain ⟨d7, fz⟩ := oh4.at_ hw
  rw [HH.out] at d7
  have d0 : _ = some (Value.int .i64 k) := d7 0 (by omega)
  have d1 : _ = some (Value.int .i64 p) := d7 1 (by omega)
  have d2 : _ = some (Value.int .i64 v) := d7 2 (by omega)
  have d3 : _ = some (Value.int .i64 t) := d7 3 (by omega)
  have d4 : _ = some (Value.int .i64 bb) := d7 4 (by omega)
  have d5 : _ = some (Value.bool wn) := d7 5 (by omega)
  have d6 : _ = some (Value.int .i64 0) := d7 6 (by omega)
  rw [Nat.add_zero] at d0
  have e0 := fz (who * 7)
  have e1 := fz (who * 7 + 1)
  have e2 := fz (who * 7 + 2)
  have e3 := fz (who * 7 + 3)
  have e4 := fz (who * 7 + 4)
  have e5 := fz (who * 7 + 5)
  have e6 := fz (who * 7 + 6)
  obtain ⟨z0, z1, z2, z3, z4, z5, z6⟩ := ky4.c7
  have ly := ky4.lt
  have oV := oh4.put hw ⟨k2, p2, v2, t2, b2, wn2, s2⟩
  have kqV := Bk.far7a (o := who * 7) kq4 (by omega : w.heap.size ≠ g4) (.int .i64 k2) (.int .i64 p2) (.int .i64 v2) (.int .i64 t2) (.int .i64 b2) (.bool wn2) (.int .i64 s2)
  have krV := Bk.far7a (o := who * 7) kr4 (by omega : w.heap.size + 1 ≠ g4) (.int .i64 k2) (.int .i64 p2) (.int .i64 v2) (.int .i64 t2) (.int .i64 b2) (.bool wn2) (.int .i64 s2)
  have kyV := Bk.far7a (o := who * 7) ky4 (by omega : w2.heap.size ≠ g4) (.int .i64 k2) (.int .i64 p2) (.int .i64 v2) (.int .i64 t2) (.int .i64 b2) (.bool wn2) (.int .i64 s2)
  have gV := grown_set7a w4 g4 (who * 7) (.int .i64 k2) (.int .i64 p2) (.int .i64 v2) (.int .i64 t2) (.int .i64 b2) (.bool wn2) (.int .i64 s2)
  have mV := m4.grown gV (fun a e e' => by injection e' with e'; exact hbne a e e')
  have GV := G4.grown gV (fun e => by injection e with e; exact hbg e.symm)
  have blV := below_set7a bl4 (by omega : w.heap.size ≤ g4) (who * 7) (.int .i64 k2) (.int .i64 p2) (.int .i64 v2) (.int .i64 t2) (.int .i64 b2) (.bool wn2) (.int .i64 s2)
  simp only at oV
  obtain ⟨V, hV⟩ : ∃ V, set7a w4 g4 (who * 7) (.int .i64 k2) (.int .i64 p2) (.int .i64 v2) (.int .i64 t2) (.int .i64 b2) (.bool wn2) (.int .i64 s2) = V := ⟨_, rfl⟩
  rw [hV] at oV kqV krV kyV mV GV blV
  unfold set7a at hV
  have HV := Lib.hid hV
  have OV := Lib.hid oV
  have KQV := Lib.hid kqV
  have KRV := Lib.hid krV
  have KYV := Lib.hid kyV
  have MV := Lib.hid mV
  have GVV := Lib.hid GV
  have BLV := Lib.hid blV
  clear hV d7 fz oV kqV krV kyV gV mV GV blV oh4 kq4 kr4 ky4 m4 G4 bl4 bh4 q3 lqy HOWN
  go_upto_region 21 with fail
  rw [HV.out]
  clear HV d0 d1 d2 d3 d4 d5 d6 e0 e1 e2 e3 e4 e5 e6 z0 z1 z2 z3 z4 z5 z6 ly
  have q3 : _ = some (Value.slice (some ⟨gh, 0, none⟩) hs.length hcp) := KQV.out.cell 3
  have q0 : _ = some (Value.slice mA ms.length mc) := KQV.out.cell 0
  have fq3 := KQV.out.frozen 3
  have fq0 := KQV.out.frozen 0
  have lq := KQV.out.lt
  have kqU := (KQV.out.set_ 3 (.slice (some ⟨g4, 0, none⟩) hs.length c4')).set_ 0 (.slice A2 ms2.length c2')
  have krU := (KRV.out.far (p := ⟨w.heap.size, 3, none⟩) (by simp) (.slice (some ⟨g4, 0, none⟩) hs.length c4')).far (p := ⟨w.heap.size, 0, none⟩) (by simp) (.slice A2 ms2.length c2')
  have hys : w2.heap.size ≠ w.heap.size := by omega
  have kyU := (KYV.out.far (p := ⟨w.heap.size, 3, none⟩) hys (.slice (some ⟨g4, 0, none⟩) hs.length c4')).far (p := ⟨w.heap.size, 0, none⟩) hys (.slice A2 ms2.length c2')
  have gU := (grown_set (w := V) (g := w.heap.size) (i := 3) (.slice (some ⟨g4, 0, none⟩) hs.length c4')).trans (grown_set (.slice A2 ms2.length c2') (i := 0))
  have hAs : ∀ a : Addr, A2 = some a → a.block ≠ w.heap.size := fun a e => by have h := OB.out a.block (by rw [e]; rfl); rw [size_alloc] at h; have := BLW.out.size; omega
  have mU := MV.out.grown gU (fun a e e' => by injection e' with e'; exact hAs a e e')
  have oU := OV.out.grown gU (fun k hk a e => by injection hk with hk; injection e with e; subst hk e; show g4 ≠ w.heap.size; omega)
  have GU := GVV.out.grown gU (fun e => by injection e with e; exact hsb e.symm)
  have blU := (BLV.out.setCell (p := ⟨w.heap.size, 3, none⟩) (Nat.le_refl _) (.slice (some ⟨g4, 0, none⟩) hs.length c4')).setCell (p := ⟨w.heap.size, 0, none⟩) (Nat.le_refl _) (.slice A2 ms2.length c2')
  obtain ⟨U, hU⟩ : ∃ U, (V.setCell ⟨w.heap.size, 3, none⟩ (.slice (some ⟨g4, 0, none⟩) hs.length c4')).setCell ⟨w.heap.size, 0, none⟩ (.slice A2 ms2.length c2') = U := ⟨_, rfl⟩
  rw [hU] at kqU krU kyU mU oU GU blU
  have HU := Lib.hid hU
  have KQU := Lib.hid kqU
  have KRU := Lib.hid krU
  have KYU := Lib.hid kyU
  have MU := Lib.hid mU
  have OU := Lib.hid oU
  have GU' := Lib.hid GU
  have BLU := Lib.hid blU
  clear hU kqU krU kyU gU hAs mU oU GU blU OV KQV KRV KYV MV GVV BLV
  go_upto_region 23 with fail
  rw [HU.out]
  clear HU q3 q0 fq3 fq0 lq
  obtain ⟨z0, z1, z2, z3, z4, z5, z6⟩ := KYU.out.c7
  have ly := KYU.out.lt
  have t1b : (s2 == 1) = false := by simp [HS3.out]
  have t2b : (s2 == 3) = true := by simp [HS3.out]
  have hlk := GU'.out.lookup fv2
  obtain ⟨U3, hupd, C3, g3⟩ := GU'.out.update fv2 hn hG
  have hwp : IntKind.i64.wrap (((G v2 : Nat) : Int) + 1) = ((G v2 : Nat) : Int) + 1 := by rw [IntKind.wrap_i64]; omega
  have kq : Bk U3 w.heap.size 49 #[.slice A2 ms2.length c2', .int .i64 0, .int .i64 cap, .slice (some ⟨g4, 0, none⟩) hs.length c4', .map (some b), .int .i64 nx, .int .i64 left, .bool false] := KQU.out.grown g3 (fun e => by injection e with e; exact hsb e)
  have kr := KRU.out.grown g3 (fun e => by injection e with e; exact hrb e)
  have ky := KYU.out.grown g3 (fun e => by injection e with e; exact hyb e)
  have M3 := MU.out.grown g3 (fun a e e' => by injection e' with e'; exact AB.out a e e')
  have O3 := OU.out.grown g3 (fun k hk a e => by injection hk with hk; injection e with e; subst hk e; exact hbg)
  have w6 : _ = some (Value.int .i64 s2) := ky.cell 6
  have lw := ky.lt
  obtain ⟨x0, x1, x2, x3, x4, x5, x6, x7⟩ := kq.c8
  obtain ⟨y0, y1, y2, y3, y4, y5, y6, y7⟩ := kr.c8
  obtain ⟨g0, g1, g2, g3', g4', g5, g6, g7⟩ := kr.f8
  have lq := kq.lt
  have lr := kr.lt
  have u4 : _ = some (Value.map (some b)) := KQU.out.cell 4
  have lu := KQU.out.lt
  have K2 := Lib.hid (bk_set8 kr (.slice A2 ms2.length c2') (.int .i64 0) (.int .i64 cap) (.slice (some ⟨g4, 0, none⟩) hs.length c4') (.map (some b)) (.int .i64 nx) (.int .i64 left) (.bool false))
  have G8 := grown_set8 U3 (w.heap.size + 1) (.slice A2 ms2.length c2') (.int .i64 0) (.int .i64 cap) (.slice (some ⟨g4, 0, none⟩) hs.length c4') (.map (some b)) (.int .i64 nx) (.int .i64 left) (.bool false)
  have hA8 : ∀ a : Addr, A2 = some a → a.block ≠ w.heap.size + 1 := fun a e => by have h := OB.out a.block (by rw [e]; rfl); rw [size_alloc] at h; have := BLW.out.size; have := RLW.out; omega
  have M8 := Lib.hid (M3.grown G8 (fun a e e' => by injection e' with e'; exact hA8 a e e'))
  have O8 := Lib.hid (O3.grown G8 (fun k hk a e => by injection hk with hk; injection e with e; subst hk e; show g4 ≠ w.heap.size + 1; omega))
  have C8 := Lib.hid (C3.grown G8 (fun e => by injection e with e; exact hrb e.symm))
  have B8 := Lib.hid (World.grownBy.andThen ((Below.gb BLU.out (row := some b)).trans g3) G8 (fun j hj => .inl (by injection hj with hj; omega)))
  clear kq kr ky M3 O3 C3 g3 G8 hA8
  go_wp2
  obtain ⟨r0, r1, r2, r3, r4, r5, r6, r7⟩ := K2.out.c8
  unfold set8 at r0 r1 r2 r3 r4 r5 r6 r7
  exact bodyPost_ret (v := .agg #[.slice A2 ms2.length c2', .int .i64 0, .int .i64 cap, .slice (some ⟨g4, 0, none⟩) hs.length c4', .map (some b), .int .i64 nx, .int .i64 left, .bool false]) (by simp [results, Try.results20, go_sem, r0, r1, r2, r3, r4, r5, r6, r7]) rfl ⟨A2, c2', g4, c4', by unfold raceC; rw [List.length_set], ⟨M8.out, O8.out.base_ (Nat.zero_le _), C8.out⟩, B8.out⟩

end Go.Proofs.Ytfmiamjbhlglbaa

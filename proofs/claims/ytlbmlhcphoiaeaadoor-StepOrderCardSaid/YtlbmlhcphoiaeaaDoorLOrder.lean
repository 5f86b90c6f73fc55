/-
  The walk of the law StepOrder of layer 13.
-/
import Derived.Test.YtlbmlhcphoiaeaaDoorSto
import Derived.Test.YtlbmlhcphoiaeaaDoorSth
namespace Go.Proofs.YtlbmlhcphoiaeaaDoor
open Go.RowKit

theorem unit_rn {t : Tk} {p : List I3} (e : (unitR t p).2.2 = 0) : (unitR t p).1.rn = t.rn + 1 := by
  rw [(unit_ok e).2.2]
  unfold goT goW
  dsimp only
  split
  · split <;> rfl
  · rfl
/-- The law's task between its units. -/
structure OrI (w wr : World) (g : Nat) (T : Tk) : Prop where
  t : Bk wr g 24 (tc T)
  b : Below w.heap.size w wr
/-- A task behind so many of its program's units. -/
structure Good (id : Int) (p : List I3) (U j k : Nat) (T : Tk) : Prop where
  ok : okF T p
  pc : T.pc = k
  st : T.st = 2
  rn : T.rn = j
  id : T.id = id
  lv : leftV T p = (U : Int) - j
  le : U ≤ 3200

section
variable {id : Int} {p : List I3} {U j k : Nat} {T : Tk}
theorem good_start (h : okP p) (hi : 0 ≤ id) : ∃ U : Nat, units p = (U : Int) ∧ U ≤ 3200 ∧ Good id p U 0 0 ⟨id, 0, 0, 0, 0, -1, -1, -1, -1, 2, 0⟩ := by
  have hu := units_room h (Nat.le_refl (runLen p))
  rw [show unitsK p (runLen p) = units p from rfl] at hu
  obtain ⟨U, hU⟩ : ∃ U : Nat, units p = (U : Int) := ⟨(units p).toNat, by omega⟩
  have ho : outB p 0 = false := outB_false.2 fun i hi => absurd hi (by omega)
  refine ⟨U, hU, by omega, ⟨⟨okT_fresh hi (.inr rfl), h, ?_, .inl rfl⟩, rfl, rfl, rfl, rfl, ?_, by omega⟩⟩
  · show (0 : Int) ≤ p.length; omega
  · rw [leftV_in (k := 0) rfl ho, List.drop_zero, hU]; dsimp only; omega
theorem good_form (h : Good id p U j k T) : ∃ tn pg un k0 k1 k2 k3, T = ⟨id, tn, pg, (k : Int), un, k0, k1, k2, k3, 2, (j : Int)⟩ := by
  obtain ⟨i, tn, pg, pc, un, k0, k1, k2, k3, st, rn⟩ := T
  obtain ⟨_, h1, h2, h3, h4, _, _⟩ := h
  dsimp only at h1 h2 h3 h4
  subst h1 h2 h3 h4
  exact ⟨tn, pg, un, k0, k1, k2, k3, rfl⟩
theorem good_pc (h : Good id p U j k T) (hj : j < U) : k < p.length := by
  refine Classical.byContradiction fun q => ?_
  have := left_end h.ok (by rw [h.pc]; omega)
  rw [h.lv] at this
  omega
theorem good_unit (h : Good id p U j k T) (hj : j < U) {T2 : Tk} {x : I3} {k2 : Nat} (hu : unitR T p = (T2, x, 0)) (hk : T2.pc = k2) : Good id p U (j + 1) k2 T2 := by
  have e : (unitR T p).2.2 = 0 := by rw [hu]
  have h1 := unit_keeps h.ok e
  obtain ⟨h2, h3⟩ := left_unit h.ok e
  have h4 := unit_ids e
  have h5 := unit_pc h.ok e
  have h6 : (unitR T p).1.rn = T.rn + 1 := unit_rn e
  rw [hu] at h1 h2 h4 h5 h6
  dsimp only at h1 h2 h4 h5 h6
  refine ⟨h1, hk, h5.2.2.trans h.st, ?_, h4.1.trans h.id, ?_, h.le⟩
  · rw [h6, h.rn]; omega
  · rw [h2, h.lv]; omega
theorem good_un (h : Good id p U j k T) (_ : j < U) (hx : jO p k ≠ 1) : T.un = 0 := by
  rcases h.ok.2.2.2 with e | ⟨_, e, _⟩
  · exact e
  · rw [h.pc, Int.toNat_natCast] at e; exact absurd e hx
end
section
variable {id tn pg un k0 k1 k2 k3 : Int} {p : List I3} {U j k : Nat}
theorem good_A (h : Good id p U j k ⟨id, tn, pg, (k : Int), un, k0, k1, k2, k3, 2, (j : Int)⟩) (hj : j < U) (hx : jO p k = 1) (hv : un + 1 = jA p k) :
    unitR ⟨id, tn, pg, (k : Int), un, k0, k1, k2, k3, 2, (j : Int)⟩ p = (⟨id, tn, pg, (k : Int) + 1, 0, k0, k1, k2, k3, 2, (j : Int) + 1⟩, zI, 0) ∧ Good id p U (j + 1) (k + 1) ⟨id, tn, pg, (k : Int) + 1, 0, k0, k1, k2, k3, 2, (j : Int) + 1⟩ := by
  have hl := good_pc h hj
  have hle := h.le
  have ha : atI p (k : Int) = (jO p k, jA p k, jB p k) := by unfold atI; rw [Int.toNat_natCast, atN_in hl]
  have hu := unitR_3 (t := ⟨id, tn, pg, (k : Int), un, k0, k1, k2, k3, 2, (j : Int)⟩) (p := p) rfl (by dsimp only; omega) (by dsimp only; rw [ha]; exact hx)
  dsimp only at hu
  rw [ha] at hu
  unfold goW at hu
  dsimp only at hu
  rw [if_pos hv] at hu
  exact ⟨hu, good_unit h hj hu rfl⟩
theorem good_B (h : Good id p U j k ⟨id, tn, pg, (k : Int), un, k0, k1, k2, k3, 2, (j : Int)⟩) (hj : j < U) (hx : jO p k = 1) (hv : ¬ un + 1 = jA p k) :
    unitR ⟨id, tn, pg, (k : Int), un, k0, k1, k2, k3, 2, (j : Int)⟩ p = (⟨id, tn, pg, (k : Int), un + 1, k0, k1, k2, k3, 2, (j : Int) + 1⟩, zI, 0) ∧ Good id p U (j + 1) k ⟨id, tn, pg, (k : Int), un + 1, k0, k1, k2, k3, 2, (j : Int) + 1⟩ := by
  have hl := good_pc h hj
  have hle := h.le
  have ha : atI p (k : Int) = (jO p k, jA p k, jB p k) := by unfold atI; rw [Int.toNat_natCast, atN_in hl]
  have hu := unitR_3 (t := ⟨id, tn, pg, (k : Int), un, k0, k1, k2, k3, 2, (j : Int)⟩) (p := p) rfl (by dsimp only; omega) (by dsimp only; rw [ha]; exact hx)
  dsimp only at hu
  rw [ha] at hu
  unfold goW at hu
  dsimp only at hu
  rw [if_neg hv] at hu
  exact ⟨hu, good_unit h hj hu rfl⟩
theorem good_C (h : Good id p U j k ⟨id, tn, pg, (k : Int), un, k0, k1, k2, k3, 2, (j : Int)⟩) (hj : j < U) (hx : ¬ jO p k = 1) :
    unitR ⟨id, tn, pg, (k : Int), un, k0, k1, k2, k3, 2, (j : Int)⟩ p = (⟨id, tn, pg, (k : Int) + 1, un, k0, k1, k2, k3, 2, (j : Int) + 1⟩, (jO p k, jA p k, jB p k), 0) ∧ Good id p U (j + 1) (k + 1) ⟨id, tn, pg, (k : Int) + 1, un, k0, k1, k2, k3, 2, (j : Int) + 1⟩ := by
  have hl := good_pc h hj
  have hle := h.le
  have ha : atI p (k : Int) = (jO p k, jA p k, jB p k) := by unfold atI; rw [Int.toNat_natCast, atN_in hl]
  have hu := unitR_4 (t := ⟨id, tn, pg, (k : Int), un, k0, k1, k2, k3, 2, (j : Int)⟩) (p := p) rfl (by dsimp only; omega) (by dsimp only; rw [ha]; exact hx) (by dsimp only; omega)
  dsimp only at hu
  rw [ha] at hu
  exact ⟨hu, good_unit h hj hu rfl⟩
end

set_option maxRecDepth 100000 in
set_option maxHeartbeats 8000000 in
theorem lorder_1 (id : Int) (A : Option Addr) (n c : Nat) (p : List I3) (w : World) (hp : Prog w A n c p) (hF : Fol w) (hb : 40 < n) : Calls Tryd.prog 4 #[.int .i64 id, .slice A n c] w (TrueAns w) := by
  have HP := Lib.hid hp
  have HN := Lib.hid hp.1
  have hn := Nat.le_trans hp.2.1.1 hp.2.1.2
  have HF := Lib.hid hF
  clear hp hF
  have h2 : (40 : Int) < n := by omega
  have BB := Lib.hid (Below.refl w.heap.size w)
  go_enter Tryd.func4, Tryd.ntmps4
  go_wp2_with fail
  refine (live_any _ (HF.out.le BB.out)).mono ?_
  rintro e U1 ⟨rfl, bU1⟩
  replace BB := Lib.hid (below3 BB.out bU1)
  clear bU1
  go_wp2
  go_ret
  exact ⟨rfl, BB.out⟩

set_option maxRecDepth 100000 in
set_option maxHeartbeats 8000000 in
theorem lorder_2 (id : Int) (A : Option Addr) (n c : Nat) (p : List I3) (w : World) (hp : Prog w A n c p) (hF : Fol w) (hb : ¬ 40 < n) (hi : id < 0) : Calls Tryd.prog 4 #[.int .i64 id, .slice A n c] w (TrueAns w) := by
  have HP := Lib.hid hp
  have HN := Lib.hid hp.1
  have hn := Nat.le_trans hp.2.1.1 hp.2.1.2
  have HF := Lib.hid hF
  clear hp hF
  have h2 : ¬ (40 : Int) < n := by omega
  have BB := Lib.hid (Below.refl w.heap.size w)
  go_enter Tryd.func4, Tryd.ntmps4
  go_wp2_with fail
  refine (live_any _ (HF.out.le BB.out)).mono ?_
  rintro e U1 ⟨rfl, bU1⟩
  replace BB := Lib.hid (below3 BB.out bU1)
  clear bU1
  go_wp2
  go_ret
  exact ⟨rfl, BB.out⟩

set_option maxRecDepth 100000 in
set_option maxHeartbeats 8000000 in
theorem lorder_3 (id : Int) (A : Option Addr) (n c : Nat) (p : List I3) (w : World) (hp : Prog w A n c p) (hF : Fol w) (hb : ¬ 40 < n) (hi : ¬ id < 0) (h : ¬ okP p) : Calls Tryd.prog 4 #[.int .i64 id, .slice A n c] w (TrueAns w) := by
  have HP := Lib.hid hp
  have HN := Lib.hid hp.1
  have hn := Nat.le_trans hp.2.1.1 hp.2.1.2
  have HF := Lib.hid hF
  clear hp hF
  have CF := Lib.hid (fun (W : World) (q : Fol W) => fresh_any id (by omega) W q)
  unfold tc at CF
  dsimp only at CF
  have h2 : ¬ (40 : Int) < n := by omega
  have h3 : ¬ id < 0 := hi
  have HE := Lib.hid (errP_no h)
  have HU := Lib.hid (unitsA_no h)
  have BB := Lib.hid (Below.refl w.heap.size w)
  go_enter Tryd.func4, Tryd.ntmps4
  go_wp2_with fail
  refine (live_any _ (HF.out.le BB.out)).mono ?_
  rintro e U1 ⟨rfl, bU1⟩
  replace BB := Lib.hid (below3 BB.out bU1)
  clear bU1
  go_wp2_with fail
  refine (CF.out _ (HF.out.le BB.out)).mono ?_
  rintro e U2 ⟨rfl, bU2⟩
  replace BB := Lib.hid (below3 BB.out bU2)
  clear bU2
  have kn := Bk.new U2 24 #[.int .i64 id, .int .i64 0, .int .i64 0, .int .i64 0, .int .i64 0, .int .i64 (-1), .int .i64 (-1), .int .i64 (-1), .int .i64 (-1), .int .i64 2, .int .i64 0]
  have ba := (Below.refl U2.heap.size U2).alloc (Nat.le_refl _) (.cells #[.int .i64 id, .int .i64 0, .int .i64 0, .int .i64 0, .int .i64 0, .int .i64 (-1), .int .i64 (-1), .int .i64 (-1), .int .i64 (-1), .int .i64 2, .int .i64 0] 24)
  have hgb := BB.out.size
  replace BB := Lib.hid (below3 BB.out ba)
  obtain ⟨gt, hg⟩ : ∃ g, U2.heap.size = g := ⟨_, rfl⟩
  obtain ⟨V3, hW⟩ : ∃ W, U2.alloc (.cells #[.int .i64 id, .int .i64 0, .int .i64 0, .int .i64 0, .int .i64 0, .int .i64 (-1), .int .i64 (-1), .int .i64 (-1), .int .i64 (-1), .int .i64 2, .int .i64 0] 24) = W := ⟨_, rfl⟩
  have Kt := Lib.hid kn
  rw [hW] at BB Kt
  rw [hg] at Kt hgb
  have HGt := Lib.hid hg
  have HWt := Lib.hid hW
  have HBt := Lib.hid hgb
  clear hW hg kn ba hgb
  go_upto_region 7 with fail
  rw [HWt.out]
  try rw [HGt.out]
  clear HWt HGt
  go_wp2_with fail
  refine (units_any A n c p _ (HP.out.below BB.out)).mono ?_
  rintro e U4 ⟨rfl, bU4⟩
  replace BB := Lib.hid (below3 BB.out bU4)
  replace Kt := Lib.hid (Kt.out.below bU4 Kt.out.lt)
  clear bU4
  rw [HU.out]
  go_wp2_with fail
  refine (check_any A n c p _ (HP.out.below BB.out)).mono ?_
  rw [HE.out]
  rintro e U5 ⟨rfl, bU5⟩
  replace BB := Lib.hid (below3 BB.out bU5)
  replace Kt := Lib.hid (Kt.out.below bU5 Kt.out.lt)
  clear bU5
  go_wp2
  go_ret
  exact ⟨rfl, BB.out⟩

set_option maxRecDepth 100000 in
set_option maxHeartbeats 16000000 in
theorem lorder_4 (id : Int) (A : Option Addr) (n c : Nat) (p : List I3) (w : World) (hp : Prog w A n c p) (hF : Fol w) (hb : ¬ 40 < n) (hi : ¬ id < 0) (h : okP p) : Calls Tryd.prog 4 #[.int .i64 id, .slice A n c] w (TrueAns w) := by
  have HP := Lib.hid hp
  have HN := Lib.hid hp.1
  have hn := Nat.le_trans hp.2.1.1 hp.2.1.2
  have HF := Lib.hid hF
  clear hp hF
  have CF := Lib.hid (fun (W : World) (q : Fol W) => fresh_any id (by omega) W q)
  unfold tc at CF
  dsimp only at CF
  have h2 : ¬ (40 : Int) < n := by omega
  have h3 : ¬ id < 0 := hi
  have HU := Lib.hid (unitsA_ok h)
  obtain ⟨U, hU, hU2, G0⟩ := good_start h (id := id) (by omega)
  rw [hU] at HU
  have HG0 := Lib.hid G0
  have HOK := Lib.hid h
  clear G0 hU h
  have BB := Lib.hid (Below.refl w.heap.size w)
  go_enter Tryd.func4, Tryd.ntmps4
  go_wp2_with fail
  refine (live_any _ (HF.out.le BB.out)).mono ?_
  rintro e U1 ⟨rfl, bU1⟩
  replace BB := Lib.hid (below3 BB.out bU1)
  clear bU1
  go_wp2_with fail
  refine (CF.out _ (HF.out.le BB.out)).mono ?_
  rintro e U2 ⟨rfl, bU2⟩
  replace BB := Lib.hid (below3 BB.out bU2)
  clear bU2
  have kn := Bk.new U2 24 #[.int .i64 id, .int .i64 0, .int .i64 0, .int .i64 0, .int .i64 0, .int .i64 (-1), .int .i64 (-1), .int .i64 (-1), .int .i64 (-1), .int .i64 2, .int .i64 0]
  have ba := (Below.refl U2.heap.size U2).alloc (Nat.le_refl _) (.cells #[.int .i64 id, .int .i64 0, .int .i64 0, .int .i64 0, .int .i64 0, .int .i64 (-1), .int .i64 (-1), .int .i64 (-1), .int .i64 (-1), .int .i64 2, .int .i64 0] 24)
  have hgb := BB.out.size
  replace BB := Lib.hid (below3 BB.out ba)
  obtain ⟨gt, hg⟩ : ∃ g, U2.heap.size = g := ⟨_, rfl⟩
  obtain ⟨V3, hW⟩ : ∃ W, U2.alloc (.cells #[.int .i64 id, .int .i64 0, .int .i64 0, .int .i64 0, .int .i64 0, .int .i64 (-1), .int .i64 (-1), .int .i64 (-1), .int .i64 (-1), .int .i64 2, .int .i64 0] 24) = W := ⟨_, rfl⟩
  have Kt := Lib.hid kn
  rw [hW] at BB Kt
  rw [hg] at Kt hgb
  have HGt := Lib.hid hg
  have HWt := Lib.hid hW
  have HBt := Lib.hid hgb
  clear hW hg kn ba hgb
  go_upto_region 7 with fail
  rw [HWt.out]
  try rw [HGt.out]
  clear HWt HGt
  go_wp2_with fail
  refine (units_any A n c p _ (HP.out.below BB.out)).mono ?_
  rintro e U4 ⟨rfl, bU4⟩
  replace BB := Lib.hid (below3 BB.out bU4)
  replace Kt := Lib.hid (Kt.out.below bU4 Kt.out.lt)
  clear bU4
  rw [HU.out]
  have II : Hid (OrI w _ gt ⟨id, 0, 0, 0, 0, -1, -1, -1, -1, 2, 0⟩) := Lib.hid ⟨Kt.out, BB.out⟩
  clear Kt BB CF HU
  go_wp2_with fail
  go_loopw [10, 11, 59] (fun x y v wr => ∃ (j k : Nat) (T : Tk), j ≤ U ∧ v = .int .i64 j ∧ x = .int .i64 k ∧ y = .int .i64 T.un ∧ Hid (Good id p U j k T) ∧ Hid (OrI w wr gt T)) (fun _ _ v _ => U - (intOf v).toNat)
  case atStart => exact ⟨0, 0, _, Nat.zero_le _, rfl, rfl, rfl, HG0, II⟩
  case round =>
    rename World => wr
    obtain ⟨j, k, T, hj, rfl, rfl, rfl, HG, HI⟩ := hrel
    clear II HG0
    have hT := good_form HG.out
    obtain ⟨tn, pg, un, k0, k1, k2, k3, rfl⟩ := hT
    have HL := Lib.hid HG.out.lv
    have HK := Lib.hid HG.out.ok
    by_cases hlt : j < U
    · by_cases hx : jO p k = 1
      · by_cases hv : un + 1 = jA p k
        · have hk := good_pc HG.out hlt
          rw [HN.out] at hk
          have hku : (U : Int) ≤ 3200 := by omega
          have hub : 0 ≤ un ∧ un < 100 := by obtain ⟨_, _, _, _, q1, q2, _⟩ := HK.out.num; exact ⟨q1, q2⟩
          have CL := Lib.hid (fun (W : World) (hbw : Below w.heap.size w W) => (leftR_ok HK.out).trans (by rw [HL.out]) ▸ left_any _ A n c p W (HP.out.below hbw) : ∀ (W : World), Below w.heap.size w W → Calls Tryd.prog 14 #[.agg (tc ⟨id, tn, pg, (k : Int), un, k0, k1, k2, k3, 2, (j : Int)⟩), .slice A n c] W (Ret2 ((U : Int) - (j : Int), (0 : Int)) W))
          unfold Ret2 tc at CL
          dsimp only at CL
          obtain ⟨hd, hg⟩ := good_A HG.out hlt hx hv
          have HG2 := Lib.hid hg
          clear hg
          have CD := Lib.hid (fun (W : World) (hbw : Below w.heap.size w W) => ((doR_yes HK.out).trans hd) ▸ do_any _ A n c p W (HP.out.below hbw))
          unfold tc vI at CD
          try unfold zI at CD
          dsimp only at CD
          clear hd HG HL HK
          obtain ⟨b, o, hA, hbl, g0, g1, g2⟩ := HP.out.at_ hk
          have HA := Lib.hid hA
          clear hA
          generalize jO p k = xo at *
          generalize jA p k = xa at *
          generalize jB p k = xb at *
          subst hx
          have d2 : (un + 1 == xa) = true := by simpa using hv
          clear hv
          have hkn : (k : Int) < n := by omega
          have Kt := Lib.hid HI.out.t
          have BB := Lib.hid HI.out.b
          clear HI
          unfold tc at Kt
          dsimp only at Kt ⊢
          obtain ⟨qt_0, qt_1, qt_2, qt_3, qt_4, qt_5, qt_6, qt_7, qt_8, qt_9, qt_10⟩ := Kt.out.c11
          have lt := Kt.out.lt
          go_wp2_with fail
          refine (CL.out _ BB.out).mono ?_
          rintro e U1 ⟨rfl, bU1⟩
          clear qt_0 qt_1 qt_2 qt_3 qt_4 qt_5 qt_6 qt_7 qt_8 qt_9 qt_10 lt
          replace BB := Lib.hid (below3 BB.out bU1)
          replace Kt := Lib.hid (Kt.out.below bU1 Kt.out.lt)
          clear bU1
          obtain ⟨qt_0, qt_1, qt_2, qt_3, qt_4, qt_5, qt_6, qt_7, qt_8, qt_9, qt_10⟩ := Kt.out.c11
          have lt := Kt.out.lt
          go_wp2_with fail
          refine (CD.out _ BB.out).mono ?_
          rintro e U2 ⟨rfl, bU2⟩
          clear qt_0 qt_1 qt_2 qt_3 qt_4 qt_5 qt_6 qt_7 qt_8 qt_9 qt_10 lt
          replace BB := Lib.hid (below3 BB.out bU2)
          replace Kt := Lib.hid (Kt.out.below bU2 Kt.out.lt)
          clear bU2
          obtain ⟨kn, km, ba⟩ := lies2 U2 #[.int .i64 id, .int .i64 tn, .int .i64 pg, .int .i64 (k + 1), .int .i64 0, .int .i64 k0, .int .i64 k1, .int .i64 k2, .int .i64 k3, .int .i64 2, .int .i64 (j + 1)] #[.int .i64 0, .int .i64 0, .int .i64 0] 24 28
          have hgb := BB.out.size
          have nt_a := Kt.out.lt
          replace BB := Lib.hid (below3 BB.out ba)
          replace Kt := Lib.hid (Kt.out.below ba Kt.out.lt)
          obtain ⟨ga, hg⟩ : ∃ g, U2.heap.size = g := ⟨_, rfl⟩
          obtain ⟨V3, hW⟩ : ∃ W, (U2.alloc (.cells #[.int .i64 id, .int .i64 tn, .int .i64 pg, .int .i64 (k + 1), .int .i64 0, .int .i64 k0, .int .i64 k1, .int .i64 k2, .int .i64 k3, .int .i64 2, .int .i64 (j + 1)] 24)).alloc (.cells #[.int .i64 0, .int .i64 0, .int .i64 0] 28) = W := ⟨_, rfl⟩
          rw [hW] at BB kn km Kt
          rw [hg] at kn km hgb nt_a
          have Ka := Lib.hid kn
          have Kx := Lib.hid km
          have HGa := Lib.hid hg
          have HWa := Lib.hid hW
          have HBa := Lib.hid hgb
          have HBx : Hid (w.heap.size ≤ ga + 1) := Lib.hid (by omega)
          have Na_x : Hid (ga ≠ ga + 1) := Lib.hid (by omega)
          have Nt_a : Hid (gt ≠ ga) := Lib.hid (by omega)
          have Nt_x : Hid (gt ≠ ga + 1) := Lib.hid (by omega)
          clear hW hg kn km ba hgb nt_a
          go_upto_region 19 with fail
          rw [HWa.out]
          try rw [HGa.out]
          clear HWa HGa
          obtain ⟨m0, m1, m2⟩ : _ ∧ _ ∧ _ := ⟨(BB.out.cell (p := ⟨b, _, none⟩) hbl).trans g0, (BB.out.cell (p := ⟨b, _, none⟩) hbl).trans g1, (BB.out.cell (p := ⟨b, _, none⟩) hbl).trans g2⟩
          have hbl2 := Nat.lt_of_lt_of_le hbl BB.out.size
          have hA := HA.out
          subst hA
          have kn := Bk.new V3 37 #[.int .i64 1, .int .i64 xa, .int .i64 xb]
          have ba := (Below.refl V3.heap.size V3).alloc (Nat.le_refl _) (.cells #[.int .i64 1, .int .i64 xa, .int .i64 xb] 37)
          have hgb := BB.out.size
          have nt_i := Nat.ne_of_lt Kt.out.lt
          have na_i := Nat.ne_of_lt Ka.out.lt
          have nx_i := Nat.ne_of_lt Kx.out.lt
          replace BB := Lib.hid (below3 BB.out ba)
          replace Kt := Lib.hid (Kt.out.below ba Kt.out.lt)
          replace Ka := Lib.hid (Ka.out.below ba Ka.out.lt)
          replace Kx := Lib.hid (Kx.out.below ba Kx.out.lt)
          obtain ⟨gi, hg⟩ : ∃ g, V3.heap.size = g := ⟨_, rfl⟩
          obtain ⟨V4, hW⟩ : ∃ W, V3.alloc (.cells #[.int .i64 1, .int .i64 xa, .int .i64 xb] 37) = W := ⟨_, rfl⟩
          have Ki := Lib.hid kn
          rw [hW] at BB Ki Kt Ka Kx
          rw [hg] at Ki hgb nt_i na_i nx_i
          have HGi := Lib.hid hg
          have HWi := Lib.hid hW
          have HBi := Lib.hid hgb
          have Nt_i := Lib.hid nt_i
          have Na_i := Lib.hid na_i
          have Nx_i := Lib.hid nx_i
          clear hW hg kn ba hgb nt_i na_i nx_i
          go_upto_region 20 with fail
          rw [HWi.out]
          try rw [HGi.out]
          clear HWi HGi
          clear m0 m1 m2 hbl2
          obtain ⟨qa_0, qa_1, qa_2, qa_3, qa_4, qa_5, qa_6, qa_7, qa_8, qa_9, qa_10⟩ := Ka.out.c11
          have la := Ka.out.lt
          obtain ⟨qx_0, qx_1, qx_2⟩ := Kx.out.c3
          have lx := Kx.out.lt
          obtain ⟨qi_0, qi_1, qi_2⟩ := Ki.out.c3
          have li := Ki.out.lt
          obtain ⟨qt_0, qt_1, qt_2, qt_3, qt_4, qt_5, qt_6, qt_7, qt_8, qt_9, qt_10⟩ := Kt.out.c11
          have lt := Kt.out.lt
          obtain ⟨ft_0, ft_1, ft_2, ft_3, ft_4, ft_5, ft_6, ft_7, ft_8, ft_9, ft_10⟩ := Kt.out.f11
          have x0 := bk_set11 Kt.out (.int .i64 id) (.int .i64 tn) (.int .i64 pg) (.int .i64 (k + 1)) (.int .i64 0) (.int .i64 k0) (.int .i64 k1) (.int .i64 k2) (.int .i64 k3) (.int .i64 2) (.int .i64 (j + 1))
          have xb := below_set11 (g := gt) BB.out HBt.out (.int .i64 id) (.int .i64 tn) (.int .i64 pg) (.int .i64 (k + 1)) (.int .i64 0) (.int .i64 k0) (.int .i64 k1) (.int .i64 k2) (.int .i64 k3) (.int .i64 2) (.int .i64 (j + 1))
          have x_a := far_set11 Ka.out Nt_a.out.symm (.int .i64 id) (.int .i64 tn) (.int .i64 pg) (.int .i64 (k + 1)) (.int .i64 0) (.int .i64 k0) (.int .i64 k1) (.int .i64 k2) (.int .i64 k3) (.int .i64 2) (.int .i64 (j + 1))
          have x_x := far_set11 Kx.out Nt_x.out.symm (.int .i64 id) (.int .i64 tn) (.int .i64 pg) (.int .i64 (k + 1)) (.int .i64 0) (.int .i64 k0) (.int .i64 k1) (.int .i64 k2) (.int .i64 k3) (.int .i64 2) (.int .i64 (j + 1))
          have x_i := far_set11 Ki.out Nt_i.out.symm (.int .i64 id) (.int .i64 tn) (.int .i64 pg) (.int .i64 (k + 1)) (.int .i64 0) (.int .i64 k0) (.int .i64 k1) (.int .i64 k2) (.int .i64 k3) (.int .i64 2) (.int .i64 (j + 1))
          obtain ⟨S5, hX⟩ : ∃ X, set11 V4 gt (.int .i64 id) (.int .i64 tn) (.int .i64 pg) (.int .i64 (k + 1)) (.int .i64 0) (.int .i64 k0) (.int .i64 k1) (.int .i64 k2) (.int .i64 k3) (.int .i64 2) (.int .i64 (j + 1)) = X := ⟨_, rfl⟩
          have hs : S5.heap.size = V4.heap.size := by rw [← hX]; unfold set11; simp
          rw [hX] at x0 xb x_a x_x x_i
          unfold set11 at hX
          have HX := Lib.hid hX
          have HS := Lib.hid hs
          replace Kt := Lib.hid x0
          replace BB := Lib.hid xb
          replace Ka := Lib.hid x_a
          replace Kx := Lib.hid x_x
          replace Ki := Lib.hid x_i
          clear hX hs x0 xb x_a x_x x_i
          go_upto_region 33 with fail
          rw [HX.out]
          clear HX HS
          clear qa_0 qa_1 qa_2 qa_3 qa_4 qa_5 qa_6 qa_7 qa_8 qa_9 qa_10 la qx_0 qx_1 qx_2 lx qi_0 qi_1 qi_2 li qt_0 qt_1 qt_2 qt_3 qt_4 qt_5 qt_6 qt_7 qt_8 qt_9 qt_10 lt ft_0 ft_1 ft_2 ft_3 ft_4 ft_5 ft_6 ft_7 ft_8 ft_9 ft_10
          have II2 : Hid (OrI w S5 gt ⟨id, tn, pg, (k + 1 : Int), 0, k0, k1, k2, k3, 2, (j + 1 : Int)⟩) := Lib.hid ⟨Kt.out, BB.out⟩
          clear Kt Ka Kx Ki BB
          go_wp2_with fail
          go_roundw
          case rel => exact ⟨j + 1, k + 1, _, by omega, by go_num, by go_num, rfl, HG2, II2⟩
          case measure => simp [intOf]; omega
        · have hk := good_pc HG.out hlt
          rw [HN.out] at hk
          have hku : (U : Int) ≤ 3200 := by omega
          have hub : 0 ≤ un ∧ un < 100 := by obtain ⟨_, _, _, _, q1, q2, _⟩ := HK.out.num; exact ⟨q1, q2⟩
          have CL := Lib.hid (fun (W : World) (hbw : Below w.heap.size w W) => (leftR_ok HK.out).trans (by rw [HL.out]) ▸ left_any _ A n c p W (HP.out.below hbw) : ∀ (W : World), Below w.heap.size w W → Calls Tryd.prog 14 #[.agg (tc ⟨id, tn, pg, (k : Int), un, k0, k1, k2, k3, 2, (j : Int)⟩), .slice A n c] W (Ret2 ((U : Int) - (j : Int), (0 : Int)) W))
          unfold Ret2 tc at CL
          dsimp only at CL
          obtain ⟨hd, hg⟩ := good_B HG.out hlt hx hv
          have HG2 := Lib.hid hg
          clear hg
          have CD := Lib.hid (fun (W : World) (hbw : Below w.heap.size w W) => ((doR_yes HK.out).trans hd) ▸ do_any _ A n c p W (HP.out.below hbw))
          unfold tc vI at CD
          try unfold zI at CD
          dsimp only at CD
          clear hd HG HL HK
          obtain ⟨b, o, hA, hbl, g0, g1, g2⟩ := HP.out.at_ hk
          have HA := Lib.hid hA
          clear hA
          generalize jO p k = xo at *
          generalize jA p k = xa at *
          generalize jB p k = xb at *
          subst hx
          have d2 : (un + 1 == xa) = false := by simpa using hv
          clear hv
          have hkn : (k : Int) < n := by omega
          have Kt := Lib.hid HI.out.t
          have BB := Lib.hid HI.out.b
          clear HI
          unfold tc at Kt
          dsimp only at Kt ⊢
          obtain ⟨qt_0, qt_1, qt_2, qt_3, qt_4, qt_5, qt_6, qt_7, qt_8, qt_9, qt_10⟩ := Kt.out.c11
          have lt := Kt.out.lt
          go_wp2_with fail
          refine (CL.out _ BB.out).mono ?_
          rintro e U1 ⟨rfl, bU1⟩
          clear qt_0 qt_1 qt_2 qt_3 qt_4 qt_5 qt_6 qt_7 qt_8 qt_9 qt_10 lt
          replace BB := Lib.hid (below3 BB.out bU1)
          replace Kt := Lib.hid (Kt.out.below bU1 Kt.out.lt)
          clear bU1
          obtain ⟨qt_0, qt_1, qt_2, qt_3, qt_4, qt_5, qt_6, qt_7, qt_8, qt_9, qt_10⟩ := Kt.out.c11
          have lt := Kt.out.lt
          go_wp2_with fail
          refine (CD.out _ BB.out).mono ?_
          rintro e U2 ⟨rfl, bU2⟩
          clear qt_0 qt_1 qt_2 qt_3 qt_4 qt_5 qt_6 qt_7 qt_8 qt_9 qt_10 lt
          replace BB := Lib.hid (below3 BB.out bU2)
          replace Kt := Lib.hid (Kt.out.below bU2 Kt.out.lt)
          clear bU2
          obtain ⟨kn, km, ba⟩ := lies2 U2 #[.int .i64 id, .int .i64 tn, .int .i64 pg, .int .i64 k, .int .i64 (un + 1), .int .i64 k0, .int .i64 k1, .int .i64 k2, .int .i64 k3, .int .i64 2, .int .i64 (j + 1)] #[.int .i64 0, .int .i64 0, .int .i64 0] 24 28
          have hgb := BB.out.size
          have nt_a := Kt.out.lt
          replace BB := Lib.hid (below3 BB.out ba)
          replace Kt := Lib.hid (Kt.out.below ba Kt.out.lt)
          obtain ⟨ga, hg⟩ : ∃ g, U2.heap.size = g := ⟨_, rfl⟩
          obtain ⟨V3, hW⟩ : ∃ W, (U2.alloc (.cells #[.int .i64 id, .int .i64 tn, .int .i64 pg, .int .i64 k, .int .i64 (un + 1), .int .i64 k0, .int .i64 k1, .int .i64 k2, .int .i64 k3, .int .i64 2, .int .i64 (j + 1)] 24)).alloc (.cells #[.int .i64 0, .int .i64 0, .int .i64 0] 28) = W := ⟨_, rfl⟩
          rw [hW] at BB kn km Kt
          rw [hg] at kn km hgb nt_a
          have Ka := Lib.hid kn
          have Kx := Lib.hid km
          have HGa := Lib.hid hg
          have HWa := Lib.hid hW
          have HBa := Lib.hid hgb
          have HBx : Hid (w.heap.size ≤ ga + 1) := Lib.hid (by omega)
          have Na_x : Hid (ga ≠ ga + 1) := Lib.hid (by omega)
          have Nt_a : Hid (gt ≠ ga) := Lib.hid (by omega)
          have Nt_x : Hid (gt ≠ ga + 1) := Lib.hid (by omega)
          clear hW hg kn km ba hgb nt_a
          go_upto_region 19 with fail
          rw [HWa.out]
          try rw [HGa.out]
          clear HWa HGa
          obtain ⟨m0, m1, m2⟩ : _ ∧ _ ∧ _ := ⟨(BB.out.cell (p := ⟨b, _, none⟩) hbl).trans g0, (BB.out.cell (p := ⟨b, _, none⟩) hbl).trans g1, (BB.out.cell (p := ⟨b, _, none⟩) hbl).trans g2⟩
          have hbl2 := Nat.lt_of_lt_of_le hbl BB.out.size
          have hA := HA.out
          subst hA
          have kn := Bk.new V3 37 #[.int .i64 1, .int .i64 xa, .int .i64 xb]
          have ba := (Below.refl V3.heap.size V3).alloc (Nat.le_refl _) (.cells #[.int .i64 1, .int .i64 xa, .int .i64 xb] 37)
          have hgb := BB.out.size
          have nt_i := Nat.ne_of_lt Kt.out.lt
          have na_i := Nat.ne_of_lt Ka.out.lt
          have nx_i := Nat.ne_of_lt Kx.out.lt
          replace BB := Lib.hid (below3 BB.out ba)
          replace Kt := Lib.hid (Kt.out.below ba Kt.out.lt)
          replace Ka := Lib.hid (Ka.out.below ba Ka.out.lt)
          replace Kx := Lib.hid (Kx.out.below ba Kx.out.lt)
          obtain ⟨gi, hg⟩ : ∃ g, V3.heap.size = g := ⟨_, rfl⟩
          obtain ⟨V4, hW⟩ : ∃ W, V3.alloc (.cells #[.int .i64 1, .int .i64 xa, .int .i64 xb] 37) = W := ⟨_, rfl⟩
          have Ki := Lib.hid kn
          rw [hW] at BB Ki Kt Ka Kx
          rw [hg] at Ki hgb nt_i na_i nx_i
          have HGi := Lib.hid hg
          have HWi := Lib.hid hW
          have HBi := Lib.hid hgb
          have Nt_i := Lib.hid nt_i
          have Na_i := Lib.hid na_i
          have Nx_i := Lib.hid nx_i
          clear hW hg kn ba hgb nt_i na_i nx_i
          go_upto_region 20 with fail
          rw [HWi.out]
          try rw [HGi.out]
          clear HWi HGi
          clear m0 m1 m2 hbl2
          obtain ⟨qa_0, qa_1, qa_2, qa_3, qa_4, qa_5, qa_6, qa_7, qa_8, qa_9, qa_10⟩ := Ka.out.c11
          have la := Ka.out.lt
          obtain ⟨qx_0, qx_1, qx_2⟩ := Kx.out.c3
          have lx := Kx.out.lt
          obtain ⟨qi_0, qi_1, qi_2⟩ := Ki.out.c3
          have li := Ki.out.lt
          obtain ⟨qt_0, qt_1, qt_2, qt_3, qt_4, qt_5, qt_6, qt_7, qt_8, qt_9, qt_10⟩ := Kt.out.c11
          have lt := Kt.out.lt
          obtain ⟨ft_0, ft_1, ft_2, ft_3, ft_4, ft_5, ft_6, ft_7, ft_8, ft_9, ft_10⟩ := Kt.out.f11
          have x0 := bk_set11 Kt.out (.int .i64 id) (.int .i64 tn) (.int .i64 pg) (.int .i64 k) (.int .i64 (un + 1)) (.int .i64 k0) (.int .i64 k1) (.int .i64 k2) (.int .i64 k3) (.int .i64 2) (.int .i64 (j + 1))
          have xb := below_set11 (g := gt) BB.out HBt.out (.int .i64 id) (.int .i64 tn) (.int .i64 pg) (.int .i64 k) (.int .i64 (un + 1)) (.int .i64 k0) (.int .i64 k1) (.int .i64 k2) (.int .i64 k3) (.int .i64 2) (.int .i64 (j + 1))
          have x_a := far_set11 Ka.out Nt_a.out.symm (.int .i64 id) (.int .i64 tn) (.int .i64 pg) (.int .i64 k) (.int .i64 (un + 1)) (.int .i64 k0) (.int .i64 k1) (.int .i64 k2) (.int .i64 k3) (.int .i64 2) (.int .i64 (j + 1))
          have x_x := far_set11 Kx.out Nt_x.out.symm (.int .i64 id) (.int .i64 tn) (.int .i64 pg) (.int .i64 k) (.int .i64 (un + 1)) (.int .i64 k0) (.int .i64 k1) (.int .i64 k2) (.int .i64 k3) (.int .i64 2) (.int .i64 (j + 1))
          have x_i := far_set11 Ki.out Nt_i.out.symm (.int .i64 id) (.int .i64 tn) (.int .i64 pg) (.int .i64 k) (.int .i64 (un + 1)) (.int .i64 k0) (.int .i64 k1) (.int .i64 k2) (.int .i64 k3) (.int .i64 2) (.int .i64 (j + 1))
          obtain ⟨S5, hX⟩ : ∃ X, set11 V4 gt (.int .i64 id) (.int .i64 tn) (.int .i64 pg) (.int .i64 k) (.int .i64 (un + 1)) (.int .i64 k0) (.int .i64 k1) (.int .i64 k2) (.int .i64 k3) (.int .i64 2) (.int .i64 (j + 1)) = X := ⟨_, rfl⟩
          have hs : S5.heap.size = V4.heap.size := by rw [← hX]; unfold set11; simp
          rw [hX] at x0 xb x_a x_x x_i
          unfold set11 at hX
          have HX := Lib.hid hX
          have HS := Lib.hid hs
          replace Kt := Lib.hid x0
          replace BB := Lib.hid xb
          replace Ka := Lib.hid x_a
          replace Kx := Lib.hid x_x
          replace Ki := Lib.hid x_i
          clear hX hs x0 xb x_a x_x x_i
          go_upto_region 33 with fail
          rw [HX.out]
          clear HX HS
          clear qa_0 qa_1 qa_2 qa_3 qa_4 qa_5 qa_6 qa_7 qa_8 qa_9 qa_10 la qx_0 qx_1 qx_2 lx qi_0 qi_1 qi_2 li qt_0 qt_1 qt_2 qt_3 qt_4 qt_5 qt_6 qt_7 qt_8 qt_9 qt_10 lt ft_0 ft_1 ft_2 ft_3 ft_4 ft_5 ft_6 ft_7 ft_8 ft_9 ft_10
          have II2 : Hid (OrI w S5 gt ⟨id, tn, pg, (k : Int), un + 1, k0, k1, k2, k3, 2, (j + 1 : Int)⟩) := Lib.hid ⟨Kt.out, BB.out⟩
          clear Kt Ka Kx Ki BB
          go_wp2_with fail
          go_roundw
          case rel => exact ⟨j + 1, k, _, by omega, by go_num, by go_num, rfl, HG2, II2⟩
          case measure => simp [intOf]; omega
      · have hk := good_pc HG.out hlt
        rw [HN.out] at hk
        have hku : (U : Int) ≤ 3200 := by omega
        have hub : 0 ≤ un ∧ un < 100 := by obtain ⟨_, _, _, _, q1, q2, _⟩ := HK.out.num; exact ⟨q1, q2⟩
        have CL := Lib.hid (fun (W : World) (hbw : Below w.heap.size w W) => (leftR_ok HK.out).trans (by rw [HL.out]) ▸ left_any _ A n c p W (HP.out.below hbw) : ∀ (W : World), Below w.heap.size w W → Calls Tryd.prog 14 #[.agg (tc ⟨id, tn, pg, (k : Int), un, k0, k1, k2, k3, 2, (j : Int)⟩), .slice A n c] W (Ret2 ((U : Int) - (j : Int), (0 : Int)) W))
        unfold Ret2 tc at CL
        dsimp only at CL
        have hu0 := good_un HG.out hlt hx
        dsimp only at hu0
        subst hu0
        obtain ⟨hd, hg⟩ := good_C HG.out hlt hx
        have HG2 := Lib.hid hg
        clear hg
        have CD := Lib.hid (fun (W : World) (hbw : Below w.heap.size w W) => ((doR_yes HK.out).trans hd) ▸ do_any _ A n c p W (HP.out.below hbw))
        unfold tc vI at CD
        try unfold zI at CD
        dsimp only at CD
        clear hd HG HL HK
        obtain ⟨b, o, hA, hbl, g0, g1, g2⟩ := HP.out.at_ hk
        have HA := Lib.hid hA
        clear hA
        generalize jO p k = xo at *
        generalize jA p k = xa at *
        generalize jB p k = xb at *
        have d1 : (xo == 1) = false := by simpa using hx
        clear hx
        have hkn : (k : Int) < n := by omega
        have Kt := Lib.hid HI.out.t
        have BB := Lib.hid HI.out.b
        clear HI
        unfold tc at Kt
        dsimp only at Kt ⊢
        obtain ⟨qt_0, qt_1, qt_2, qt_3, qt_4, qt_5, qt_6, qt_7, qt_8, qt_9, qt_10⟩ := Kt.out.c11
        have lt := Kt.out.lt
        go_wp2_with fail
        refine (CL.out _ BB.out).mono ?_
        rintro e U1 ⟨rfl, bU1⟩
        clear qt_0 qt_1 qt_2 qt_3 qt_4 qt_5 qt_6 qt_7 qt_8 qt_9 qt_10 lt
        replace BB := Lib.hid (below3 BB.out bU1)
        replace Kt := Lib.hid (Kt.out.below bU1 Kt.out.lt)
        clear bU1
        obtain ⟨qt_0, qt_1, qt_2, qt_3, qt_4, qt_5, qt_6, qt_7, qt_8, qt_9, qt_10⟩ := Kt.out.c11
        have lt := Kt.out.lt
        go_wp2_with fail
        refine (CD.out _ BB.out).mono ?_
        rintro e U2 ⟨rfl, bU2⟩
        clear qt_0 qt_1 qt_2 qt_3 qt_4 qt_5 qt_6 qt_7 qt_8 qt_9 qt_10 lt
        replace BB := Lib.hid (below3 BB.out bU2)
        replace Kt := Lib.hid (Kt.out.below bU2 Kt.out.lt)
        clear bU2
        obtain ⟨kn, km, ba⟩ := lies2 U2 #[.int .i64 id, .int .i64 tn, .int .i64 pg, .int .i64 (k + 1), .int .i64 0, .int .i64 k0, .int .i64 k1, .int .i64 k2, .int .i64 k3, .int .i64 2, .int .i64 (j + 1)] #[.int .i64 xo, .int .i64 xa, .int .i64 xb] 24 28
        have hgb := BB.out.size
        have nt_a := Kt.out.lt
        replace BB := Lib.hid (below3 BB.out ba)
        replace Kt := Lib.hid (Kt.out.below ba Kt.out.lt)
        obtain ⟨ga, hg⟩ : ∃ g, U2.heap.size = g := ⟨_, rfl⟩
        obtain ⟨V3, hW⟩ : ∃ W, (U2.alloc (.cells #[.int .i64 id, .int .i64 tn, .int .i64 pg, .int .i64 (k + 1), .int .i64 0, .int .i64 k0, .int .i64 k1, .int .i64 k2, .int .i64 k3, .int .i64 2, .int .i64 (j + 1)] 24)).alloc (.cells #[.int .i64 xo, .int .i64 xa, .int .i64 xb] 28) = W := ⟨_, rfl⟩
        rw [hW] at BB kn km Kt
        rw [hg] at kn km hgb nt_a
        have Ka := Lib.hid kn
        have Kx := Lib.hid km
        have HGa := Lib.hid hg
        have HWa := Lib.hid hW
        have HBa := Lib.hid hgb
        have HBx : Hid (w.heap.size ≤ ga + 1) := Lib.hid (by omega)
        have Na_x : Hid (ga ≠ ga + 1) := Lib.hid (by omega)
        have Nt_a : Hid (gt ≠ ga) := Lib.hid (by omega)
        have Nt_x : Hid (gt ≠ ga + 1) := Lib.hid (by omega)
        clear hW hg kn km ba hgb nt_a
        go_upto_region 19 with fail
        rw [HWa.out]
        try rw [HGa.out]
        clear HWa HGa
        obtain ⟨m0, m1, m2⟩ : _ ∧ _ ∧ _ := ⟨(BB.out.cell (p := ⟨b, _, none⟩) hbl).trans g0, (BB.out.cell (p := ⟨b, _, none⟩) hbl).trans g1, (BB.out.cell (p := ⟨b, _, none⟩) hbl).trans g2⟩
        have hbl2 := Nat.lt_of_lt_of_le hbl BB.out.size
        have hA := HA.out
        subst hA
        have kn := Bk.new V3 37 #[.int .i64 xo, .int .i64 xa, .int .i64 xb]
        have ba := (Below.refl V3.heap.size V3).alloc (Nat.le_refl _) (.cells #[.int .i64 xo, .int .i64 xa, .int .i64 xb] 37)
        have hgb := BB.out.size
        have nt_i := Nat.ne_of_lt Kt.out.lt
        have na_i := Nat.ne_of_lt Ka.out.lt
        have nx_i := Nat.ne_of_lt Kx.out.lt
        replace BB := Lib.hid (below3 BB.out ba)
        replace Kt := Lib.hid (Kt.out.below ba Kt.out.lt)
        replace Ka := Lib.hid (Ka.out.below ba Ka.out.lt)
        replace Kx := Lib.hid (Kx.out.below ba Kx.out.lt)
        obtain ⟨gi, hg⟩ : ∃ g, V3.heap.size = g := ⟨_, rfl⟩
        obtain ⟨V4, hW⟩ : ∃ W, V3.alloc (.cells #[.int .i64 xo, .int .i64 xa, .int .i64 xb] 37) = W := ⟨_, rfl⟩
        have Ki := Lib.hid kn
        rw [hW] at BB Ki Kt Ka Kx
        rw [hg] at Ki hgb nt_i na_i nx_i
        have HGi := Lib.hid hg
        have HWi := Lib.hid hW
        have HBi := Lib.hid hgb
        have Nt_i := Lib.hid nt_i
        have Na_i := Lib.hid na_i
        have Nx_i := Lib.hid nx_i
        clear hW hg kn ba hgb nt_i na_i nx_i
        go_upto_region 20 with fail
        rw [HWi.out]
        try rw [HGi.out]
        clear HWi HGi
        clear m0 m1 m2 hbl2
        obtain ⟨qa_0, qa_1, qa_2, qa_3, qa_4, qa_5, qa_6, qa_7, qa_8, qa_9, qa_10⟩ := Ka.out.c11
        have la := Ka.out.lt
        obtain ⟨qx_0, qx_1, qx_2⟩ := Kx.out.c3
        have lx := Kx.out.lt
        obtain ⟨qi_0, qi_1, qi_2⟩ := Ki.out.c3
        have li := Ki.out.lt
        obtain ⟨qt_0, qt_1, qt_2, qt_3, qt_4, qt_5, qt_6, qt_7, qt_8, qt_9, qt_10⟩ := Kt.out.c11
        have lt := Kt.out.lt
        obtain ⟨ft_0, ft_1, ft_2, ft_3, ft_4, ft_5, ft_6, ft_7, ft_8, ft_9, ft_10⟩ := Kt.out.f11
        have x0 := bk_set11 Kt.out (.int .i64 id) (.int .i64 tn) (.int .i64 pg) (.int .i64 (k + 1)) (.int .i64 0) (.int .i64 k0) (.int .i64 k1) (.int .i64 k2) (.int .i64 k3) (.int .i64 2) (.int .i64 (j + 1))
        have xb := below_set11 (g := gt) BB.out HBt.out (.int .i64 id) (.int .i64 tn) (.int .i64 pg) (.int .i64 (k + 1)) (.int .i64 0) (.int .i64 k0) (.int .i64 k1) (.int .i64 k2) (.int .i64 k3) (.int .i64 2) (.int .i64 (j + 1))
        have x_a := far_set11 Ka.out Nt_a.out.symm (.int .i64 id) (.int .i64 tn) (.int .i64 pg) (.int .i64 (k + 1)) (.int .i64 0) (.int .i64 k0) (.int .i64 k1) (.int .i64 k2) (.int .i64 k3) (.int .i64 2) (.int .i64 (j + 1))
        have x_x := far_set11 Kx.out Nt_x.out.symm (.int .i64 id) (.int .i64 tn) (.int .i64 pg) (.int .i64 (k + 1)) (.int .i64 0) (.int .i64 k0) (.int .i64 k1) (.int .i64 k2) (.int .i64 k3) (.int .i64 2) (.int .i64 (j + 1))
        have x_i := far_set11 Ki.out Nt_i.out.symm (.int .i64 id) (.int .i64 tn) (.int .i64 pg) (.int .i64 (k + 1)) (.int .i64 0) (.int .i64 k0) (.int .i64 k1) (.int .i64 k2) (.int .i64 k3) (.int .i64 2) (.int .i64 (j + 1))
        obtain ⟨S5, hX⟩ : ∃ X, set11 V4 gt (.int .i64 id) (.int .i64 tn) (.int .i64 pg) (.int .i64 (k + 1)) (.int .i64 0) (.int .i64 k0) (.int .i64 k1) (.int .i64 k2) (.int .i64 k3) (.int .i64 2) (.int .i64 (j + 1)) = X := ⟨_, rfl⟩
        have hs : S5.heap.size = V4.heap.size := by rw [← hX]; unfold set11; simp
        rw [hX] at x0 xb x_a x_x x_i
        unfold set11 at hX
        have HX := Lib.hid hX
        have HS := Lib.hid hs
        replace Kt := Lib.hid x0
        replace BB := Lib.hid xb
        replace Ka := Lib.hid x_a
        replace Kx := Lib.hid x_x
        replace Ki := Lib.hid x_i
        clear hX hs x0 xb x_a x_x x_i
        go_upto_region 33 with fail
        rw [HX.out]
        clear HX HS
        clear qa_0 qa_1 qa_2 qa_3 qa_4 qa_5 qa_6 qa_7 qa_8 qa_9 qa_10 la qx_0 qx_1 qx_2 lx qi_0 qi_1 qi_2 li qt_0 qt_1 qt_2 qt_3 qt_4 qt_5 qt_6 qt_7 qt_8 qt_9 qt_10 lt ft_0 ft_1 ft_2 ft_3 ft_4 ft_5 ft_6 ft_7 ft_8 ft_9 ft_10
        have II2 : Hid (OrI w S5 gt ⟨id, tn, pg, (k + 1 : Int), 0, k0, k1, k2, k3, 2, (j + 1 : Int)⟩) := Lib.hid ⟨Kt.out, BB.out⟩
        clear Kt Ka Kx Ki BB
        go_wp2_with fail
        go_roundw
        case rel => exact ⟨j + 1, k + 1, _, by omega, by go_num, by go_num, rfl, HG2, II2⟩
        case measure => simp [intOf]; omega
    · have HLE : Hid (leftV ⟨id, tn, pg, (k : Int), un, k0, k1, k2, k3, 2, (j : Int)⟩ p = 0) := Lib.hid (by rw [HL.out]; omega)
      have CL := Lib.hid (fun (W : World) (hbw : Below w.heap.size w W) => (leftR_ok HK.out).trans (by rw [HLE.out]) ▸ left_any _ A n c p W (HP.out.below hbw) : ∀ (W : World), Below w.heap.size w W → Calls Tryd.prog 14 #[.agg (tc ⟨id, tn, pg, (k : Int), un, k0, k1, k2, k3, 2, (j : Int)⟩), .slice A n c] W (Ret2 ((0 : Int), (0 : Int)) W))
      unfold Ret2 tc at CL
      dsimp only at CL
      have hjU : (j : Int) = (U : Int) := by omega
      have e1 : ((j : Int) == (U : Int)) = true := beq_iff_eq.2 (by omega)
      clear HG HL HK HLE hjU
      have Kt := Lib.hid HI.out.t
      have BB := Lib.hid HI.out.b
      have HBt := HBt
      clear HI
      unfold tc at Kt
      dsimp only at Kt ⊢
      obtain ⟨qt_0, qt_1, qt_2, qt_3, qt_4, qt_5, qt_6, qt_7, qt_8, qt_9, qt_10⟩ := Kt.out.c11
      have lt := Kt.out.lt
      go_wp2_with fail
      refine (CL.out _ BB.out).mono ?_
      rintro e U1 ⟨rfl, bU1⟩
      clear qt_0 qt_1 qt_2 qt_3 qt_4 qt_5 qt_6 qt_7 qt_8 qt_9 qt_10 lt
      replace BB := Lib.hid (below3 BB.out bU1)
      replace Kt := Lib.hid (Kt.out.below bU1 Kt.out.lt)
      clear bU1
      obtain ⟨qt_0, qt_1, qt_2, qt_3, qt_4, qt_5, qt_6, qt_7, qt_8, qt_9, qt_10⟩ := Kt.out.c11
      have lt := Kt.out.lt
      go_wp2
      go_ret
      exact ⟨rfl, BB.out⟩

theorem lorder_any (id : Int) (A : Option Addr) (n c : Nat) (p : List I3) (w : World) (hp : Prog w A n c p) (hF : Fol w) : Calls Tryd.prog 4 #[.int .i64 id, .slice A n c] w (TrueAns w) := by
  by_cases hb : 40 < n
  · exact lorder_1 id A n c p w hp hF hb
  · by_cases hi : id < 0
    · exact lorder_2 id A n c p w hp hF hb hi
    · by_cases h : okP p
      · exact lorder_4 id A n c p w hp hF hb hi h
      · exact lorder_3 id A n c p w hp hF hb hi h

end Go.Proofs.YtlbmlhcphoiaeaaDoor

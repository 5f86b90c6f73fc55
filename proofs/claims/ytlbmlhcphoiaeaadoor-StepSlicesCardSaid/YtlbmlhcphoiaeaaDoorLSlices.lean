/-
  The walk of the law StepSlices of layer 13.
-/
import Derived.Test.YtlbmlhcphoiaeaaDoorStq
import Derived.Test.YtlbmlhcphoiaeaaDoorSth
import Derived.Test.YtlbmlhcphoiaeaaDoorTkj
namespace Go.Proofs.YtlbmlhcphoiaeaaDoor
open Go.RowKit

/-- The law's two tasks between its slices. -/
structure SlO (w wr : World) (ga gb : Nat) (T : Tk) : Prop where
  a : Bk wr ga 24 (tc T)
  b : Bk wr gb 24 (tc T)
  w : Below w.heap.size w wr
/-- .. between its units. -/
structure SlJ (w wr : World) (ga gb gc : Nat) (T T1 T2 : Tk) (x : I3) : Prop where
  a : Bk wr ga 24 (tc T)
  b : Bk wr gb 24 (tc T1)
  c : Bk wr gc 24 (tc T2)
  e : Bk wr (gc + 1) 28 #[.int .i64 x.1, .int .i64 x.2.1, .int .i64 x.2.2]
  w : Below w.heap.size w wr
/-- A task behind so many slices. -/
structure Fine (p : List I3) (i : Nat) (T : Tk) : Prop where
  ok : okF T p
  st : T.st = 2
  rn : 0 ≤ T.rn ∧ T.rn ≤ 100 * i
theorem sl_start {p : List I3} (h : okP p) {id : Int} (hi : 0 ≤ id) : Fine p 0 ⟨id, 0, 0, 0, 0, -1, -1, -1, -1, 2, 0⟩ := by
  refine ⟨⟨okT_fresh hi (.inr rfl), h, ?_, .inl rfl⟩, rfl, ?_⟩
  · show (0 : Int) ≤ p.length; omega
  · dsimp only; omega
theorem fine_next {p : List I3} {i m k : Nat} {T T2 : Tk} {x : I3} (h : Fine p i T) (q : Ran p T T2 x m k) (hk : k ≤ 100) : Fine p (i + 1) T2 := by
  have h1 := q.ok m (Nat.le_refl _)
  have h2 := q.st m (Nat.le_refl _)
  have h3 := q.rn m (Nat.le_refl _)
  rw [q.fin] at h1 h2 h3
  have := h.rn
  have := q.le
  exact ⟨h1, h2, by omega, by omega⟩

set_option maxRecDepth 100000 in
set_option maxHeartbeats 8000000 in
theorem lslices_1 (id : Int) (A : Option Addr) (n c : Nat) (p : List I3) (A2 : Option Addr) (m c2 : Nat) (zs : List Int) (w : World) (hp : Prog w A n c p) (hm : m ≤ 9223372036854775807) (_ : m ≤ 140737488351232 → Octs w A2 m zs) (hF : Fol w) (hb : 40 < n) : Calls Tryd.prog 5 #[.int .i64 id, .slice A n c, .slice A2 m c2] w (TrueAns w) := by
  have HP := Lib.hid hp
  have HN := Lib.hid hp.1
  have hn := Nat.le_trans hp.2.1.1 hp.2.1.2
  have HF := Lib.hid hF
  clear hp hF
  have hm9 := hm
  clear hm
  have h2 : (40 : Int) < n := by omega
  have BB := Lib.hid (Below.refl w.heap.size w)
  go_enter Tryd.func5, Tryd.ntmps5
  go_wp2_with fail
  refine (live_any _ (HF.out.le BB.out)).mono ?_
  rintro e U1 ⟨rfl, bU1⟩
  replace BB := Lib.hid (below3 BB.out bU1)
  clear bU1
  go_wp2
  go_ret
  exact ⟨rfl, BB.out⟩

set_option maxRecDepth 100000 in
set_option maxHeartbeats 8000000 in
theorem lslices_2 (id : Int) (A : Option Addr) (n c : Nat) (p : List I3) (A2 : Option Addr) (m c2 : Nat) (zs : List Int) (w : World) (hp : Prog w A n c p) (hm : m ≤ 9223372036854775807) (_ : m ≤ 140737488351232 → Octs w A2 m zs) (hF : Fol w) (hb : ¬ 40 < n) (hi : id < 0) : Calls Tryd.prog 5 #[.int .i64 id, .slice A n c, .slice A2 m c2] w (TrueAns w) := by
  have HP := Lib.hid hp
  have HN := Lib.hid hp.1
  have hn := Nat.le_trans hp.2.1.1 hp.2.1.2
  have HF := Lib.hid hF
  clear hp hF
  have hm9 := hm
  clear hm
  have h2 : ¬ (40 : Int) < n := by omega
  have BB := Lib.hid (Below.refl w.heap.size w)
  go_enter Tryd.func5, Tryd.ntmps5
  go_wp2_with fail
  refine (live_any _ (HF.out.le BB.out)).mono ?_
  rintro e U1 ⟨rfl, bU1⟩
  replace BB := Lib.hid (below3 BB.out bU1)
  clear bU1
  go_wp2
  go_ret
  exact ⟨rfl, BB.out⟩

set_option maxRecDepth 100000 in
set_option maxHeartbeats 8000000 in
theorem lslices_3 (id : Int) (A : Option Addr) (n c : Nat) (p : List I3) (A2 : Option Addr) (m c2 : Nat) (zs : List Int) (w : World) (hp : Prog w A n c p) (hm : m ≤ 9223372036854775807) (_ : m ≤ 140737488351232 → Octs w A2 m zs) (hF : Fol w) (hb : ¬ 40 < n) (hi : ¬ id < 0) (hc : 60 < m) : Calls Tryd.prog 5 #[.int .i64 id, .slice A n c, .slice A2 m c2] w (TrueAns w) := by
  have HP := Lib.hid hp
  have HN := Lib.hid hp.1
  have hn := Nat.le_trans hp.2.1.1 hp.2.1.2
  have HF := Lib.hid hF
  clear hp hF
  have hm9 := hm
  clear hm
  have h2 : ¬ (40 : Int) < n := by omega
  have h3 : ¬ id < 0 := hi
  have h4 : (60 : Int) < m := by omega
  have BB := Lib.hid (Below.refl w.heap.size w)
  go_enter Tryd.func5, Tryd.ntmps5
  go_wp2_with fail
  refine (live_any _ (HF.out.le BB.out)).mono ?_
  rintro e U1 ⟨rfl, bU1⟩
  replace BB := Lib.hid (below3 BB.out bU1)
  clear bU1
  go_wp2
  go_ret
  exact ⟨rfl, BB.out⟩

set_option maxRecDepth 100000 in
set_option maxHeartbeats 8000000 in
theorem lslices_4 (id : Int) (A : Option Addr) (n c : Nat) (p : List I3) (A2 : Option Addr) (m c2 : Nat) (zs : List Int) (w : World) (hp : Prog w A n c p) (hm : m ≤ 9223372036854775807) (_ : m ≤ 140737488351232 → Octs w A2 m zs) (hF : Fol w) (hb : ¬ 40 < n) (hi : ¬ id < 0) (hc : ¬ 60 < m) (h : ¬ okP p) : Calls Tryd.prog 5 #[.int .i64 id, .slice A n c, .slice A2 m c2] w (TrueAns w) := by
  have HP := Lib.hid hp
  have HN := Lib.hid hp.1
  have hn := Nat.le_trans hp.2.1.1 hp.2.1.2
  have HF := Lib.hid hF
  clear hp hF
  have hm9 := hm
  clear hm
  have h2 : ¬ (40 : Int) < n := by omega
  have h3 : ¬ id < 0 := hi
  have h4 : ¬ (60 : Int) < m := by omega
  have HE := Lib.hid (errP_no h)
  have BB := Lib.hid (Below.refl w.heap.size w)
  go_enter Tryd.func5, Tryd.ntmps5
  go_wp2_with fail
  refine (live_any _ (HF.out.le BB.out)).mono ?_
  rintro e U1 ⟨rfl, bU1⟩
  replace BB := Lib.hid (below3 BB.out bU1)
  clear bU1
  go_wp2_with fail
  refine (check_any A n c p _ (HP.out.below BB.out)).mono ?_
  rw [HE.out]
  rintro e U2 ⟨rfl, bU2⟩
  replace BB := Lib.hid (below3 BB.out bU2)
  clear bU2
  go_wp2
  go_ret
  exact ⟨rfl, BB.out⟩

set_option maxRecDepth 100000 in
set_option maxHeartbeats 16000000 in
theorem lslices_5 (id : Int) (A : Option Addr) (n c : Nat) (p : List I3) (A2 : Option Addr) (m c2 : Nat) (zs : List Int) (w : World) (hp : Prog w A n c p) (hm : m ≤ 9223372036854775807) (ho : m ≤ 140737488351232 → Octs w A2 m zs) (hF : Fol w) (hb : ¬ 40 < n) (hi : ¬ id < 0) (hc : ¬ 60 < m) (h : okP p) : Calls Tryd.prog 5 #[.int .i64 id, .slice A n c, .slice A2 m c2] w (TrueAns w) := by
  have HP := Lib.hid hp
  have HN := Lib.hid hp.1
  have hn := Nat.le_trans hp.2.1.1 hp.2.1.2
  have HF := Lib.hid hF
  clear hp hF
  have hm9 := hm
  clear hm
  have HO := Lib.hid (ho (by omega))
  clear ho
  have h2 : ¬ (40 : Int) < n := by omega
  have h3 : ¬ id < 0 := hi
  have h4 : ¬ (60 : Int) < m := by omega
  have HE := Lib.hid (errP_ok h)
  have CF := Lib.hid (fun (W : World) (q : Fol W) => fresh_any id (by omega) W q)
  unfold tc at CF
  dsimp only at CF
  have HG0 := Lib.hid (sl_start (p := p) h (id := id) (by omega))
  have BB := Lib.hid (Below.refl w.heap.size w)
  go_enter Tryd.func5, Tryd.ntmps5
  go_wp2_with fail
  refine (live_any _ (HF.out.le BB.out)).mono ?_
  rintro e U1 ⟨rfl, bU1⟩
  replace BB := Lib.hid (below3 BB.out bU1)
  clear bU1
  go_wp2_with fail
  refine (check_any A n c p _ (HP.out.below BB.out)).mono ?_
  rw [HE.out]
  rintro e U2 ⟨rfl, bU2⟩
  replace BB := Lib.hid (below3 BB.out bU2)
  clear bU2
  go_wp2_with fail
  refine (CF.out _ (HF.out.le BB.out)).mono ?_
  rintro e U3 ⟨rfl, bU3⟩
  replace BB := Lib.hid (below3 BB.out bU3)
  clear bU3
  have kn := Bk.new U3 24 #[.int .i64 id, .int .i64 0, .int .i64 0, .int .i64 0, .int .i64 0, .int .i64 (-1), .int .i64 (-1), .int .i64 (-1), .int .i64 (-1), .int .i64 2, .int .i64 0]
  have ba := (Below.refl U3.heap.size U3).alloc (Nat.le_refl _) (.cells #[.int .i64 id, .int .i64 0, .int .i64 0, .int .i64 0, .int .i64 0, .int .i64 (-1), .int .i64 (-1), .int .i64 (-1), .int .i64 (-1), .int .i64 2, .int .i64 0] 24)
  have hgb := BB.out.size
  replace BB := Lib.hid (below3 BB.out ba)
  obtain ⟨ga, hg⟩ : ∃ g, U3.heap.size = g := ⟨_, rfl⟩
  obtain ⟨V4, hW⟩ : ∃ W, U3.alloc (.cells #[.int .i64 id, .int .i64 0, .int .i64 0, .int .i64 0, .int .i64 0, .int .i64 (-1), .int .i64 (-1), .int .i64 (-1), .int .i64 (-1), .int .i64 2, .int .i64 0] 24) = W := ⟨_, rfl⟩
  have Ka := Lib.hid kn
  rw [hW] at BB Ka
  rw [hg] at Ka hgb
  have HGa := Lib.hid hg
  have HWa := Lib.hid hW
  have HBa := Lib.hid hgb
  clear hW hg kn ba hgb
  go_upto_region 7 with fail
  rw [HWa.out]
  try rw [HGa.out]
  clear HWa HGa
  obtain ⟨qa_0, qa_1, qa_2, qa_3, qa_4, qa_5, qa_6, qa_7, qa_8, qa_9, qa_10⟩ := Ka.out.c11
  have la := Ka.out.lt
  have kn := Bk.new V4 24 #[.int .i64 id, .int .i64 0, .int .i64 0, .int .i64 0, .int .i64 0, .int .i64 (-1), .int .i64 (-1), .int .i64 (-1), .int .i64 (-1), .int .i64 2, .int .i64 0]
  have ba := (Below.refl V4.heap.size V4).alloc (Nat.le_refl _) (.cells #[.int .i64 id, .int .i64 0, .int .i64 0, .int .i64 0, .int .i64 0, .int .i64 (-1), .int .i64 (-1), .int .i64 (-1), .int .i64 (-1), .int .i64 2, .int .i64 0] 24)
  have hgb := BB.out.size
  have na_b := Nat.ne_of_lt Ka.out.lt
  replace BB := Lib.hid (below3 BB.out ba)
  replace Ka := Lib.hid (Ka.out.below ba Ka.out.lt)
  obtain ⟨gb, hg⟩ : ∃ g, V4.heap.size = g := ⟨_, rfl⟩
  obtain ⟨V5, hW⟩ : ∃ W, V4.alloc (.cells #[.int .i64 id, .int .i64 0, .int .i64 0, .int .i64 0, .int .i64 0, .int .i64 (-1), .int .i64 (-1), .int .i64 (-1), .int .i64 (-1), .int .i64 2, .int .i64 0] 24) = W := ⟨_, rfl⟩
  have Kb := Lib.hid kn
  rw [hW] at BB Kb Ka
  rw [hg] at Kb hgb na_b
  have HGb := Lib.hid hg
  have HWb := Lib.hid hW
  have HBb := Lib.hid hgb
  have Na_b := Lib.hid na_b
  clear hW hg kn ba hgb na_b
  go_upto_region 8 with fail
  rw [HWb.out]
  try rw [HGb.out]
  clear HWb HGb
  clear qa_0 qa_1 qa_2 qa_3 qa_4 qa_5 qa_6 qa_7 qa_8 qa_9 qa_10 la
  have II : Hid (SlO w _ ga gb ⟨id, 0, 0, 0, 0, -1, -1, -1, -1, 2, 0⟩) := Lib.hid ⟨Ka.out, Kb.out, BB.out⟩
  clear Ka Kb BB CF HE
  go_wp2_with fail
  go_loopw [53] (fun v wr => ∃ (i : Nat) (T : Tk), i ≤ m ∧ v = .int .i64 i ∧ Hid (Fine p i T) ∧ Hid (SlO w wr ga gb T)) (fun v _ => m - (intOf v).toNat)
  case atStart => exact ⟨0, _, Nat.zero_le _, rfl, HG0, II⟩
  case round =>
    rename World => wr
    obtain ⟨i, T, hi2, rfl, HG, HI⟩ := hrel
    clear II HG0
    by_cases hlt : i < m
    · obtain ⟨b, o, hA, hbl, hcel⟩ := HO.out.2.2.2 (by omega)
      have g0 := hcel i hlt
      have hx0 := HO.out.oct i
      clear hcel
      have HA := Lib.hid hA
      clear hA
      generalize nth zs i = x at g0 hx0
      obtain ⟨hx1, hx2⟩ := hx0
      obtain ⟨bd, hbd, hbd1, hbd2⟩ : ∃ bd : Nat, x % 100 + 1 = (bd : Int) ∧ 1 ≤ bd ∧ bd ≤ 100 := ⟨(x % 100 + 1).toNat, by omega, by omega, by omega⟩
      have HBD := Lib.hid hbd
      clear hbd
      obtain ⟨cn, q1, q2, -, q3⟩ := run_units bd 0 T HG.out.ok HG.out.st (by have := HG.out.rn; omega)
      have hsl := sliceR_yes HG.out.ok hbd1 hbd2
      have HQ := Lib.hid q3
      have hc1 := q3.pos (by omega)
      have hc2 := q3.le
      have hall := q3.all
      clear q3
      have CS := Lib.hid (fun (W : World) (hbw : Below w.heap.size w W) => hsl ▸ slice_any T A n c p bd W (HP.out.below hbw))
      clear hsl
      have HG2 := Lib.hid (fine_next HG.out HQ.out hbd2)
      generalize runR p bd 0 T = R at *
      obtain ⟨T2, X, cn2, ce⟩ := R
      dsimp only at *
      subst q2
      rw [Nat.zero_add] at q1
      subst q1
      obtain ⟨xo, xa, xb⟩ := X
      have Ka := Lib.hid HI.out.a
      have Kb := Lib.hid HI.out.b
      have BB := Lib.hid HI.out.w
      have HR0 : Hid (T.rn ≤ 6000) := Lib.hid (by have := HG.out.rn; omega)
      clear HI HG
      obtain ⟨TT0, hTT0⟩ : ∃ Q, T = Q := ⟨_, rfl⟩
      have HTT0 := Lib.hid hTT0
      rw [hTT0] at HQ HR0
      clear hTT0
      obtain ⟨TT2, hTT2⟩ : ∃ Q, T2 = Q := ⟨_, rfl⟩
      have HTT2 := Lib.hid hTT2
      rw [hTT2] at HQ HG2
      clear hTT2
      obtain ⟨t0, t1, t2, t3, t4, t5, t6, t7, t8, t9, t10⟩ := T
      obtain ⟨y0, y1, y2, y3, y4, y5, y6, y7, y8, y9, y10⟩ := T2
      unfold tc at Ka Kb
      unfold tc vI at CS
      dsimp only at Ka Kb CS
      have m0 := (BB.out.cell (p := ⟨b, _, none⟩) hbl).trans g0
      have hbl2 := Nat.lt_of_lt_of_le hbl BB.out.size
      have hA := HA.out
      subst hA
      go_upto_region 14 with fail
      rw [HBD.out]
      clear m0 hbl2
      obtain ⟨qa_0, qa_1, qa_2, qa_3, qa_4, qa_5, qa_6, qa_7, qa_8, qa_9, qa_10⟩ := Ka.out.c11
      have la := Ka.out.lt
      go_wp2_with fail
      refine (CS.out _ BB.out).mono ?_
      rintro e U1 ⟨rfl, bU1⟩
      clear qa_0 qa_1 qa_2 qa_3 qa_4 qa_5 qa_6 qa_7 qa_8 qa_9 qa_10 la
      replace BB := Lib.hid (below3 BB.out bU1)
      replace Ka := Lib.hid (Ka.out.below bU1 Ka.out.lt)
      replace Kb := Lib.hid (Kb.out.below bU1 Kb.out.lt)
      clear bU1
      obtain ⟨kn, km, ba⟩ := lies2 U1 #[.int .i64 y0, .int .i64 y1, .int .i64 y2, .int .i64 y3, .int .i64 y4, .int .i64 y5, .int .i64 y6, .int .i64 y7, .int .i64 y8, .int .i64 y9, .int .i64 y10] #[.int .i64 xo, .int .i64 xa, .int .i64 xb] 24 28
      have hgb := BB.out.size
      have na_c := Ka.out.lt
      have nb_c := Kb.out.lt
      replace BB := Lib.hid (below3 BB.out ba)
      replace Ka := Lib.hid (Ka.out.below ba Ka.out.lt)
      replace Kb := Lib.hid (Kb.out.below ba Kb.out.lt)
      obtain ⟨gc, hg⟩ : ∃ g, U1.heap.size = g := ⟨_, rfl⟩
      obtain ⟨V2, hW⟩ : ∃ W, (U1.alloc (.cells #[.int .i64 y0, .int .i64 y1, .int .i64 y2, .int .i64 y3, .int .i64 y4, .int .i64 y5, .int .i64 y6, .int .i64 y7, .int .i64 y8, .int .i64 y9, .int .i64 y10] 24)).alloc (.cells #[.int .i64 xo, .int .i64 xa, .int .i64 xb] 28) = W := ⟨_, rfl⟩
      rw [hW] at BB kn km Ka Kb
      rw [hg] at kn km hgb na_c nb_c
      have Kc := Lib.hid kn
      have Ke := Lib.hid km
      have HGa := Lib.hid hg
      have HWa := Lib.hid hW
      have HBc := Lib.hid hgb
      have HBe : Hid (w.heap.size ≤ gc + 1) := Lib.hid (by omega)
      have Nc_e : Hid (gc ≠ gc + 1) := Lib.hid (by omega)
      have Na_c : Hid (ga ≠ gc) := Lib.hid (by omega)
      have Na_e : Hid (ga ≠ gc + 1) := Lib.hid (by omega)
      have Nb_c : Hid (gb ≠ gc) := Lib.hid (by omega)
      have Nb_e : Hid (gb ≠ gc + 1) := Lib.hid (by omega)
      clear hW hg kn km ba hgb na_c nb_c
      go_upto_region 15 with fail
      rw [HWa.out]
      try rw [HGa.out]
      clear HWa HGa
      by_cases hxz : xo = 0
      · subst hxz
        have hce : cn = bd := by omega
        have e4 : ((cn : Int) == (bd : Int)) = true := beq_iff_eq.2 (by omega)
        have e5 : ((cn : Int) != (bd : Int)) = false := by rw [bne, e4]; rfl
        clear hce
        have e7 : ¬ (cn : Int) < 1 := by omega
        have e8 : ¬ (bd : Int) < (cn : Int) := by omega
        clear hall
        obtain ⟨qe_0, qe_1, qe_2⟩ := Ke.out.c3
        have le := Ke.out.lt
        have JJ : Hid (SlJ w _ ga gb gc TT0 (itU p 0 TT0) TT2 ⟨(0 : Int), xa, xb⟩) := Lib.hid ⟨HTT0.out ▸ Ka.out, HTT0.out ▸ Kb.out, HTT2.out ▸ Kc.out, Ke.out, BB.out⟩
        go_wp2_with fail
        clear Ka Kb Kc Ke BB
        clear qe_0 qe_1 qe_2 le
        clear e4 e5
        clear e7 e8
        go_loopw [92] (fun v wr => ∃ j : Nat, j ≤ cn ∧ v = .int .i64 j ∧ Hid (SlJ w wr ga gb gc TT0 (itU p j TT0) TT2 ⟨(0 : Int), xa, xb⟩)) (fun v _ => cn - (intOf v).toNat)
        case atStart => exact ⟨0, Nat.zero_le _, rfl, JJ⟩
        case round =>
          rename World => ws
          obtain ⟨j, hj, rfl, HJ⟩ := hrel
          clear JJ
          by_cases hjt : j < cn
          · have hcb : cn ≤ 100 := by omega
            have HT1 := Lib.hid (HQ.out.ok j hj)
            have HT2 := Lib.hid (unit_go (p := p) (HQ.out.st j hj) (by have := HQ.out.rn j hj; have := HR0.out; omega))
            have HIS := Lib.hid (itU_succ p j TT0)
            have HMD := Lib.hid (HQ.out.mid j)
            have HLS := Lib.hid (HQ.out.last j)
            skip
            have CD : Hid (∀ (W : World), Below w.heap.size w W → Calls Tryd.prog 10 #[.agg (tc (itU p j TT0)), .slice A n c] W (RetB (.tuple #[.agg (tc (unitR (itU p j TT0) p).1), vI (unitR (itU p j TT0) p).2.1, .int .i64 (unitR (itU p j TT0) p).2.2]) W)) := Lib.hid (fun W hbw => doR_yes HT1.out ▸ do_any (itU p j TT0) _ n c p W (HP.out.below hbw))
            rw [HT2.out] at CD
            obtain ⟨TT3, hTT3⟩ : ∃ Q, itU p (j + 1) TT0 = Q := ⟨_, rfl⟩
            have HSJ := Lib.hid hTT3
            have his := HIS.out
            rw [hTT3] at his
            clear HIS hTT3
            generalize itU p j TT0 = T1 at *
            generalize unitR T1 p = R at *
            obtain ⟨R1, ⟨vo, va, vb⟩, R3⟩ := R
            dsimp only at *
            subst his
            clear HT1 HT2
            have Ka := Lib.hid HJ.out.a
            have Kb := Lib.hid HJ.out.b
            have Kc := Lib.hid HJ.out.c
            have Ke := Lib.hid HJ.out.e
            have BB := Lib.hid HJ.out.w
            clear HJ
            obtain ⟨u0, u1, u2, u3, u4, u5, u6, u7, u8, u9, u10⟩ := T1
            obtain ⟨v0, v1, v2, v3, v4, v5, v6, v7, v8, v9, v10⟩ := TT3
            unfold tc at Kb
            unfold tc vI at CD
            dsimp only at Kb CD
            by_cases hjl : j + 1 = cn
            · have hv := HLS.out hjl
              injection hv with w0 w1
              injection w1 with w1 w2
              subst w0 w1 w2
              have e9 : ((j : Int) == (cn : Int) - 1) = true := beq_iff_eq.2 (by omega)
              have e10 : ((j : Int) != (cn : Int) - 1) = false := by rw [bne, e9]; rfl
              clear HLS HMD
              obtain ⟨qb_0, qb_1, qb_2, qb_3, qb_4, qb_5, qb_6, qb_7, qb_8, qb_9, qb_10⟩ := Kb.out.c11
              have lb := Kb.out.lt
              go_wp2_with fail
              refine (CD.out _ BB.out).mono ?_
              rintro e U251 ⟨rfl, bU251⟩
              clear qb_0 qb_1 qb_2 qb_3 qb_4 qb_5 qb_6 qb_7 qb_8 qb_9 qb_10 lb
              replace BB := Lib.hid (below3 BB.out bU251)
              replace Ka := Lib.hid (Ka.out.below bU251 Ka.out.lt)
              replace Kb := Lib.hid (Kb.out.below bU251 Kb.out.lt)
              replace Kc := Lib.hid (Kc.out.below bU251 Kc.out.lt)
              replace Ke := Lib.hid (Ke.out.below bU251 Ke.out.lt)
              clear bU251
              obtain ⟨kn, km, ba⟩ := lies2 U251 #[.int .i64 v0, .int .i64 v1, .int .i64 v2, .int .i64 v3, .int .i64 v4, .int .i64 v5, .int .i64 v6, .int .i64 v7, .int .i64 v8, .int .i64 v9, .int .i64 v10] #[.int .i64 0, .int .i64 va, .int .i64 vb] 24 28
              have hgb := BB.out.size
              have na_d := Ka.out.lt
              have nb_d := Kb.out.lt
              have nc_d := Kc.out.lt
              have ne_d := Ke.out.lt
              replace BB := Lib.hid (below3 BB.out ba)
              replace Ka := Lib.hid (Ka.out.below ba Ka.out.lt)
              replace Kb := Lib.hid (Kb.out.below ba Kb.out.lt)
              replace Kc := Lib.hid (Kc.out.below ba Kc.out.lt)
              replace Ke := Lib.hid (Ke.out.below ba Ke.out.lt)
              obtain ⟨gd, hg⟩ : ∃ g, U251.heap.size = g := ⟨_, rfl⟩
              obtain ⟨V252, hW⟩ : ∃ W, (U251.alloc (.cells #[.int .i64 v0, .int .i64 v1, .int .i64 v2, .int .i64 v3, .int .i64 v4, .int .i64 v5, .int .i64 v6, .int .i64 v7, .int .i64 v8, .int .i64 v9, .int .i64 v10] 24)).alloc (.cells #[.int .i64 0, .int .i64 va, .int .i64 vb] 28) = W := ⟨_, rfl⟩
              rw [hW] at BB kn km Ka Kb Kc Ke
              rw [hg] at kn km hgb na_d nb_d nc_d ne_d
              have Kd := Lib.hid kn
              have Kf := Lib.hid km
              have HGa := Lib.hid hg
              have HWa := Lib.hid hW
              have HBd := Lib.hid hgb
              have HBf : Hid (w.heap.size ≤ gd + 1) := Lib.hid (by omega)
              have Nd_f : Hid (gd ≠ gd + 1) := Lib.hid (by omega)
              have Na_d : Hid (ga ≠ gd) := Lib.hid (by omega)
              have Na_f : Hid (ga ≠ gd + 1) := Lib.hid (by omega)
              have Nb_d : Hid (gb ≠ gd) := Lib.hid (by omega)
              have Nb_f : Hid (gb ≠ gd + 1) := Lib.hid (by omega)
              have Nc_d : Hid (gc ≠ gd) := Lib.hid (by omega)
              have Nc_f : Hid (gc ≠ gd + 1) := Lib.hid (by omega)
              have Ne_d : Hid ((gc + 1) ≠ gd) := Lib.hid (by omega)
              have Ne_f : Hid ((gc + 1) ≠ gd + 1) := Lib.hid (by omega)
              clear hW hg kn km ba hgb na_d nb_d nc_d ne_d
              go_upto_region 21 with fail
              rw [HWa.out]
              try rw [HGa.out]
              clear HWa HGa
              obtain ⟨qf_0, qf_1, qf_2⟩ := Kf.out.c3
              have lf := Kf.out.lt
              obtain ⟨qe_0, qe_1, qe_2⟩ := Ke.out.c3
              have le := Ke.out.lt
              obtain ⟨qd_0, qd_1, qd_2, qd_3, qd_4, qd_5, qd_6, qd_7, qd_8, qd_9, qd_10⟩ := Kd.out.c11
              have ld := Kd.out.lt
              obtain ⟨qb_0, qb_1, qb_2, qb_3, qb_4, qb_5, qb_6, qb_7, qb_8, qb_9, qb_10⟩ := Kb.out.c11
              have lb := Kb.out.lt
              obtain ⟨fb_0, fb_1, fb_2, fb_3, fb_4, fb_5, fb_6, fb_7, fb_8, fb_9, fb_10⟩ := Kb.out.f11
              have x0 := bk_set11 Kb.out (.int .i64 v0) (.int .i64 v1) (.int .i64 v2) (.int .i64 v3) (.int .i64 v4) (.int .i64 v5) (.int .i64 v6) (.int .i64 v7) (.int .i64 v8) (.int .i64 v9) (.int .i64 v10)
              have xb := below_set11 (g := gb) BB.out HBb.out (.int .i64 v0) (.int .i64 v1) (.int .i64 v2) (.int .i64 v3) (.int .i64 v4) (.int .i64 v5) (.int .i64 v6) (.int .i64 v7) (.int .i64 v8) (.int .i64 v9) (.int .i64 v10)
              have x_a := far_set11 Ka.out Na_b.out (.int .i64 v0) (.int .i64 v1) (.int .i64 v2) (.int .i64 v3) (.int .i64 v4) (.int .i64 v5) (.int .i64 v6) (.int .i64 v7) (.int .i64 v8) (.int .i64 v9) (.int .i64 v10)
              have x_c := far_set11 Kc.out Nb_c.out.symm (.int .i64 v0) (.int .i64 v1) (.int .i64 v2) (.int .i64 v3) (.int .i64 v4) (.int .i64 v5) (.int .i64 v6) (.int .i64 v7) (.int .i64 v8) (.int .i64 v9) (.int .i64 v10)
              have x_e := far_set11 Ke.out Nb_e.out.symm (.int .i64 v0) (.int .i64 v1) (.int .i64 v2) (.int .i64 v3) (.int .i64 v4) (.int .i64 v5) (.int .i64 v6) (.int .i64 v7) (.int .i64 v8) (.int .i64 v9) (.int .i64 v10)
              have x_d := far_set11 Kd.out Nb_d.out.symm (.int .i64 v0) (.int .i64 v1) (.int .i64 v2) (.int .i64 v3) (.int .i64 v4) (.int .i64 v5) (.int .i64 v6) (.int .i64 v7) (.int .i64 v8) (.int .i64 v9) (.int .i64 v10)
              have x_f := far_set11 Kf.out Nb_f.out.symm (.int .i64 v0) (.int .i64 v1) (.int .i64 v2) (.int .i64 v3) (.int .i64 v4) (.int .i64 v5) (.int .i64 v6) (.int .i64 v7) (.int .i64 v8) (.int .i64 v9) (.int .i64 v10)
              obtain ⟨S253, hX⟩ : ∃ X, set11 V252 gb (.int .i64 v0) (.int .i64 v1) (.int .i64 v2) (.int .i64 v3) (.int .i64 v4) (.int .i64 v5) (.int .i64 v6) (.int .i64 v7) (.int .i64 v8) (.int .i64 v9) (.int .i64 v10) = X := ⟨_, rfl⟩
              have hs : S253.heap.size = V252.heap.size := by rw [← hX]; unfold set11; simp
              rw [hX] at x0 xb x_a x_c x_e x_d x_f
              unfold set11 at hX
              have HX := Lib.hid hX
              have HS := Lib.hid hs
              replace Kb := Lib.hid x0
              replace BB := Lib.hid xb
              replace Ka := Lib.hid x_a
              replace Kc := Lib.hid x_c
              replace Ke := Lib.hid x_e
              replace Kd := Lib.hid x_d
              replace Kf := Lib.hid x_f
              clear hX hs x0 xb x_a x_c x_e x_d x_f
              go_upto_region 24 with fail
              rw [HX.out]
              clear HX HS
              clear qf_0 qf_1 qf_2 lf qe_0 qe_1 qe_2 le qd_0 qd_1 qd_2 qd_3 qd_4 qd_5 qd_6 qd_7 qd_8 qd_9 qd_10 ld qb_0 qb_1 qb_2 qb_3 qb_4 qb_5 qb_6 qb_7 qb_8 qb_9 qb_10 lb fb_0 fb_1 fb_2 fb_3 fb_4 fb_5 fb_6 fb_7 fb_8 fb_9 fb_10
              have J2 : Hid (SlJ w _ ga gb gc TT0 ⟨v0, v1, v2, v3, v4, v5, v6, v7, v8, v9, v10⟩ TT2 ⟨0, va, vb⟩) := Lib.hid ⟨HTT0.out ▸ Ka.out, Kb.out, HTT2.out ▸ Kc.out, Ke.out, BB.out⟩
              clear Ka Kb Kc Ke Kd Kf BB
              go_wp2_with fail
              go_roundw
              case rel => exact ⟨j + 1, by omega, by go_num, by rw [HSJ.out]; exact J2⟩
              case measure => simp [intOf]; omega
            · have hv := HMD.out (by omega)
              subst hv
              have e9 : ((j : Int) == (cn : Int) - 1) = false := beq_eq_false_iff_ne.2 (by omega)
              clear HLS HMD
              obtain ⟨qb_0, qb_1, qb_2, qb_3, qb_4, qb_5, qb_6, qb_7, qb_8, qb_9, qb_10⟩ := Kb.out.c11
              have lb := Kb.out.lt
              go_wp2_with fail
              refine (CD.out _ BB.out).mono ?_
              rintro e U251 ⟨rfl, bU251⟩
              clear qb_0 qb_1 qb_2 qb_3 qb_4 qb_5 qb_6 qb_7 qb_8 qb_9 qb_10 lb
              replace BB := Lib.hid (below3 BB.out bU251)
              replace Ka := Lib.hid (Ka.out.below bU251 Ka.out.lt)
              replace Kb := Lib.hid (Kb.out.below bU251 Kb.out.lt)
              replace Kc := Lib.hid (Kc.out.below bU251 Kc.out.lt)
              replace Ke := Lib.hid (Ke.out.below bU251 Ke.out.lt)
              clear bU251
              obtain ⟨kn, km, ba⟩ := lies2 U251 #[.int .i64 v0, .int .i64 v1, .int .i64 v2, .int .i64 v3, .int .i64 v4, .int .i64 v5, .int .i64 v6, .int .i64 v7, .int .i64 v8, .int .i64 v9, .int .i64 v10] #[.int .i64 0, .int .i64 va, .int .i64 vb] 24 28
              have hgb := BB.out.size
              have na_d := Ka.out.lt
              have nb_d := Kb.out.lt
              have nc_d := Kc.out.lt
              have ne_d := Ke.out.lt
              replace BB := Lib.hid (below3 BB.out ba)
              replace Ka := Lib.hid (Ka.out.below ba Ka.out.lt)
              replace Kb := Lib.hid (Kb.out.below ba Kb.out.lt)
              replace Kc := Lib.hid (Kc.out.below ba Kc.out.lt)
              replace Ke := Lib.hid (Ke.out.below ba Ke.out.lt)
              obtain ⟨gd, hg⟩ : ∃ g, U251.heap.size = g := ⟨_, rfl⟩
              obtain ⟨V252, hW⟩ : ∃ W, (U251.alloc (.cells #[.int .i64 v0, .int .i64 v1, .int .i64 v2, .int .i64 v3, .int .i64 v4, .int .i64 v5, .int .i64 v6, .int .i64 v7, .int .i64 v8, .int .i64 v9, .int .i64 v10] 24)).alloc (.cells #[.int .i64 0, .int .i64 va, .int .i64 vb] 28) = W := ⟨_, rfl⟩
              rw [hW] at BB kn km Ka Kb Kc Ke
              rw [hg] at kn km hgb na_d nb_d nc_d ne_d
              have Kd := Lib.hid kn
              have Kf := Lib.hid km
              have HGa := Lib.hid hg
              have HWa := Lib.hid hW
              have HBd := Lib.hid hgb
              have HBf : Hid (w.heap.size ≤ gd + 1) := Lib.hid (by omega)
              have Nd_f : Hid (gd ≠ gd + 1) := Lib.hid (by omega)
              have Na_d : Hid (ga ≠ gd) := Lib.hid (by omega)
              have Na_f : Hid (ga ≠ gd + 1) := Lib.hid (by omega)
              have Nb_d : Hid (gb ≠ gd) := Lib.hid (by omega)
              have Nb_f : Hid (gb ≠ gd + 1) := Lib.hid (by omega)
              have Nc_d : Hid (gc ≠ gd) := Lib.hid (by omega)
              have Nc_f : Hid (gc ≠ gd + 1) := Lib.hid (by omega)
              have Ne_d : Hid ((gc + 1) ≠ gd) := Lib.hid (by omega)
              have Ne_f : Hid ((gc + 1) ≠ gd + 1) := Lib.hid (by omega)
              clear hW hg kn km ba hgb na_d nb_d nc_d ne_d
              go_upto_region 21 with fail
              rw [HWa.out]
              try rw [HGa.out]
              clear HWa HGa
              obtain ⟨qf_0, qf_1, qf_2⟩ := Kf.out.c3
              have lf := Kf.out.lt
              obtain ⟨qe_0, qe_1, qe_2⟩ := Ke.out.c3
              have le := Ke.out.lt
              obtain ⟨qd_0, qd_1, qd_2, qd_3, qd_4, qd_5, qd_6, qd_7, qd_8, qd_9, qd_10⟩ := Kd.out.c11
              have ld := Kd.out.lt
              obtain ⟨qb_0, qb_1, qb_2, qb_3, qb_4, qb_5, qb_6, qb_7, qb_8, qb_9, qb_10⟩ := Kb.out.c11
              have lb := Kb.out.lt
              obtain ⟨fb_0, fb_1, fb_2, fb_3, fb_4, fb_5, fb_6, fb_7, fb_8, fb_9, fb_10⟩ := Kb.out.f11
              have x0 := bk_set11 Kb.out (.int .i64 v0) (.int .i64 v1) (.int .i64 v2) (.int .i64 v3) (.int .i64 v4) (.int .i64 v5) (.int .i64 v6) (.int .i64 v7) (.int .i64 v8) (.int .i64 v9) (.int .i64 v10)
              have xb := below_set11 (g := gb) BB.out HBb.out (.int .i64 v0) (.int .i64 v1) (.int .i64 v2) (.int .i64 v3) (.int .i64 v4) (.int .i64 v5) (.int .i64 v6) (.int .i64 v7) (.int .i64 v8) (.int .i64 v9) (.int .i64 v10)
              have x_a := far_set11 Ka.out Na_b.out (.int .i64 v0) (.int .i64 v1) (.int .i64 v2) (.int .i64 v3) (.int .i64 v4) (.int .i64 v5) (.int .i64 v6) (.int .i64 v7) (.int .i64 v8) (.int .i64 v9) (.int .i64 v10)
              have x_c := far_set11 Kc.out Nb_c.out.symm (.int .i64 v0) (.int .i64 v1) (.int .i64 v2) (.int .i64 v3) (.int .i64 v4) (.int .i64 v5) (.int .i64 v6) (.int .i64 v7) (.int .i64 v8) (.int .i64 v9) (.int .i64 v10)
              have x_e := far_set11 Ke.out Nb_e.out.symm (.int .i64 v0) (.int .i64 v1) (.int .i64 v2) (.int .i64 v3) (.int .i64 v4) (.int .i64 v5) (.int .i64 v6) (.int .i64 v7) (.int .i64 v8) (.int .i64 v9) (.int .i64 v10)
              have x_d := far_set11 Kd.out Nb_d.out.symm (.int .i64 v0) (.int .i64 v1) (.int .i64 v2) (.int .i64 v3) (.int .i64 v4) (.int .i64 v5) (.int .i64 v6) (.int .i64 v7) (.int .i64 v8) (.int .i64 v9) (.int .i64 v10)
              have x_f := far_set11 Kf.out Nb_f.out.symm (.int .i64 v0) (.int .i64 v1) (.int .i64 v2) (.int .i64 v3) (.int .i64 v4) (.int .i64 v5) (.int .i64 v6) (.int .i64 v7) (.int .i64 v8) (.int .i64 v9) (.int .i64 v10)
              obtain ⟨S253, hX⟩ : ∃ X, set11 V252 gb (.int .i64 v0) (.int .i64 v1) (.int .i64 v2) (.int .i64 v3) (.int .i64 v4) (.int .i64 v5) (.int .i64 v6) (.int .i64 v7) (.int .i64 v8) (.int .i64 v9) (.int .i64 v10) = X := ⟨_, rfl⟩
              have hs : S253.heap.size = V252.heap.size := by rw [← hX]; unfold set11; simp
              rw [hX] at x0 xb x_a x_c x_e x_d x_f
              unfold set11 at hX
              have HX := Lib.hid hX
              have HS := Lib.hid hs
              replace Kb := Lib.hid x0
              replace BB := Lib.hid xb
              replace Ka := Lib.hid x_a
              replace Kc := Lib.hid x_c
              replace Ke := Lib.hid x_e
              replace Kd := Lib.hid x_d
              replace Kf := Lib.hid x_f
              clear hX hs x0 xb x_a x_c x_e x_d x_f
              go_upto_region 24 with fail
              rw [HX.out]
              clear HX HS
              clear qf_0 qf_1 qf_2 lf qe_0 qe_1 qe_2 le qd_0 qd_1 qd_2 qd_3 qd_4 qd_5 qd_6 qd_7 qd_8 qd_9 qd_10 ld qb_0 qb_1 qb_2 qb_3 qb_4 qb_5 qb_6 qb_7 qb_8 qb_9 qb_10 lb fb_0 fb_1 fb_2 fb_3 fb_4 fb_5 fb_6 fb_7 fb_8 fb_9 fb_10
              have J2 : Hid (SlJ w _ ga gb gc TT0 ⟨v0, v1, v2, v3, v4, v5, v6, v7, v8, v9, v10⟩ TT2 ⟨0, xa, xb⟩) := Lib.hid ⟨HTT0.out ▸ Ka.out, Kb.out, HTT2.out ▸ Kc.out, Ke.out, BB.out⟩
              clear Ka Kb Kc Ke Kd Kf BB
              go_wp2_with fail
              go_roundw
              case rel => exact ⟨j + 1, by omega, by go_num, by rw [HSJ.out]; exact J2⟩
              case measure => simp [intOf]; omega
          · obtain rfl : j = cn := by omega
            have hfin := HQ.out.fin
            rw [hfin] at HJ
            clear hfin
            have Ka := Lib.hid HJ.out.a
            have Kb := Lib.hid HJ.out.b
            have Kc := Lib.hid HJ.out.c
            have Ke := Lib.hid HJ.out.e
            have BB := Lib.hid HJ.out.w
            clear HJ
            rw [← HTT2.out] at Kb Kc
            rw [← HTT0.out] at Ka
            unfold tc at Ka Kb Kc
            dsimp only at Ka Kb Kc
            have E1 := neq_task ⟨y0, y1, y2, y3, y4, y5, y6, y7, y8, y9, y10⟩
            unfold tc at E1
            dsimp only at E1
            obtain ⟨qa_0, qa_1, qa_2, qa_3, qa_4, qa_5, qa_6, qa_7, qa_8, qa_9, qa_10⟩ := Ka.out.c11
            have la := Ka.out.lt
            obtain ⟨fa_0, fa_1, fa_2, fa_3, fa_4, fa_5, fa_6, fa_7, fa_8, fa_9, fa_10⟩ := Ka.out.f11
            obtain ⟨qc_0, qc_1, qc_2, qc_3, qc_4, qc_5, qc_6, qc_7, qc_8, qc_9, qc_10⟩ := Kc.out.c11
            have lc := Kc.out.lt
            have x0 := bk_set11 Ka.out (.int .i64 y0) (.int .i64 y1) (.int .i64 y2) (.int .i64 y3) (.int .i64 y4) (.int .i64 y5) (.int .i64 y6) (.int .i64 y7) (.int .i64 y8) (.int .i64 y9) (.int .i64 y10)
            have xb := below_set11 (g := ga) BB.out HBa.out (.int .i64 y0) (.int .i64 y1) (.int .i64 y2) (.int .i64 y3) (.int .i64 y4) (.int .i64 y5) (.int .i64 y6) (.int .i64 y7) (.int .i64 y8) (.int .i64 y9) (.int .i64 y10)
            have x_b := far_set11 Kb.out Na_b.out.symm (.int .i64 y0) (.int .i64 y1) (.int .i64 y2) (.int .i64 y3) (.int .i64 y4) (.int .i64 y5) (.int .i64 y6) (.int .i64 y7) (.int .i64 y8) (.int .i64 y9) (.int .i64 y10)
            have x_c := far_set11 Kc.out Na_c.out.symm (.int .i64 y0) (.int .i64 y1) (.int .i64 y2) (.int .i64 y3) (.int .i64 y4) (.int .i64 y5) (.int .i64 y6) (.int .i64 y7) (.int .i64 y8) (.int .i64 y9) (.int .i64 y10)
            have x_e := far_set11 Ke.out Na_e.out.symm (.int .i64 y0) (.int .i64 y1) (.int .i64 y2) (.int .i64 y3) (.int .i64 y4) (.int .i64 y5) (.int .i64 y6) (.int .i64 y7) (.int .i64 y8) (.int .i64 y9) (.int .i64 y10)
            obtain ⟨S301, hX⟩ : ∃ X, set11 ws ga (.int .i64 y0) (.int .i64 y1) (.int .i64 y2) (.int .i64 y3) (.int .i64 y4) (.int .i64 y5) (.int .i64 y6) (.int .i64 y7) (.int .i64 y8) (.int .i64 y9) (.int .i64 y10) = X := ⟨_, rfl⟩
            have hs : S301.heap.size = ws.heap.size := by rw [← hX]; unfold set11; simp
            rw [hX] at x0 xb x_b x_c x_e
            unfold set11 at hX
            have HX := Lib.hid hX
            have HS := Lib.hid hs
            replace Ka := Lib.hid x0
            replace BB := Lib.hid xb
            replace Kb := Lib.hid x_b
            replace Kc := Lib.hid x_c
            replace Ke := Lib.hid x_e
            clear hX hs x0 xb x_b x_c x_e
            go_upto_region 26 with fail
            rw [HX.out]
            clear HX HS
            clear qa_0 qa_1 qa_2 qa_3 qa_4 qa_5 qa_6 qa_7 qa_8 qa_9 qa_10 la fa_0 fa_1 fa_2 fa_3 fa_4 fa_5 fa_6 fa_7 fa_8 fa_9 fa_10 qc_0 qc_1 qc_2 qc_3 qc_4 qc_5 qc_6 qc_7 qc_8 qc_9 qc_10 lc
            obtain ⟨qa_0, qa_1, qa_2, qa_3, qa_4, qa_5, qa_6, qa_7, qa_8, qa_9, qa_10⟩ := Ka.out.c11
            have la := Ka.out.lt
            obtain ⟨qb_0, qb_1, qb_2, qb_3, qb_4, qb_5, qb_6, qb_7, qb_8, qb_9, qb_10⟩ := Kb.out.c11
            have lb := Kb.out.lt
            have I2 : Hid (SlO w _ ga gb TT2) := Lib.hid ⟨HTT2.out ▸ Ka.out, HTT2.out ▸ Kb.out, BB.out⟩
            clear Ka Kb Kc Ke BB
            go_wp2_with fail
            go_roundw
            case rel => exact ⟨i + 1, TT2, by omega, by go_num, HG2, I2⟩
            case measure => simp [intOf]; omega
      · have e4 : (xo == 0) = false := by simpa using hxz
        have e6 : (xo != 0) = true := by simpa using hxz
        clear hxz
        have e7 : ¬ (cn : Int) < 1 := by omega
        have e8 : ¬ (bd : Int) < (cn : Int) := by omega
        clear hall
        obtain ⟨qe_0, qe_1, qe_2⟩ := Ke.out.c3
        have le := Ke.out.lt
        have JJ : Hid (SlJ w _ ga gb gc TT0 (itU p 0 TT0) TT2 ⟨xo, xa, xb⟩) := Lib.hid ⟨HTT0.out ▸ Ka.out, HTT0.out ▸ Kb.out, HTT2.out ▸ Kc.out, Ke.out, BB.out⟩
        go_wp2_with fail
        clear Ka Kb Kc Ke BB
        clear qe_0 qe_1 qe_2 le
        clear e4
        clear e7 e8
        go_loopw [92] (fun v wr => ∃ j : Nat, j ≤ cn ∧ v = .int .i64 j ∧ Hid (SlJ w wr ga gb gc TT0 (itU p j TT0) TT2 ⟨xo, xa, xb⟩)) (fun v _ => cn - (intOf v).toNat)
        case atStart => exact ⟨0, Nat.zero_le _, rfl, JJ⟩
        case round =>
          rename World => ws
          obtain ⟨j, hj, rfl, HJ⟩ := hrel
          clear JJ
          by_cases hjt : j < cn
          · have hcb : cn ≤ 100 := by omega
            have HT1 := Lib.hid (HQ.out.ok j hj)
            have HT2 := Lib.hid (unit_go (p := p) (HQ.out.st j hj) (by have := HQ.out.rn j hj; have := HR0.out; omega))
            have HIS := Lib.hid (itU_succ p j TT0)
            have HMD := Lib.hid (HQ.out.mid j)
            have HLS := Lib.hid (HQ.out.last j)
            skip
            have CD : Hid (∀ (W : World), Below w.heap.size w W → Calls Tryd.prog 10 #[.agg (tc (itU p j TT0)), .slice A n c] W (RetB (.tuple #[.agg (tc (unitR (itU p j TT0) p).1), vI (unitR (itU p j TT0) p).2.1, .int .i64 (unitR (itU p j TT0) p).2.2]) W)) := Lib.hid (fun W hbw => doR_yes HT1.out ▸ do_any (itU p j TT0) _ n c p W (HP.out.below hbw))
            rw [HT2.out] at CD
            obtain ⟨TT3, hTT3⟩ : ∃ Q, itU p (j + 1) TT0 = Q := ⟨_, rfl⟩
            have HSJ := Lib.hid hTT3
            have his := HIS.out
            rw [hTT3] at his
            clear HIS hTT3
            generalize itU p j TT0 = T1 at *
            generalize unitR T1 p = R at *
            obtain ⟨R1, ⟨vo, va, vb⟩, R3⟩ := R
            dsimp only at *
            subst his
            clear HT1 HT2
            have Ka := Lib.hid HJ.out.a
            have Kb := Lib.hid HJ.out.b
            have Kc := Lib.hid HJ.out.c
            have Ke := Lib.hid HJ.out.e
            have BB := Lib.hid HJ.out.w
            clear HJ
            obtain ⟨u0, u1, u2, u3, u4, u5, u6, u7, u8, u9, u10⟩ := T1
            obtain ⟨v0, v1, v2, v3, v4, v5, v6, v7, v8, v9, v10⟩ := TT3
            unfold tc at Kb
            unfold tc vI at CD
            dsimp only at Kb CD
            by_cases hjl : j + 1 = cn
            · have hv := HLS.out hjl
              injection hv with w0 w1
              injection w1 with w1 w2
              subst w0 w1 w2
              have e9 : ((j : Int) == (cn : Int) - 1) = true := beq_iff_eq.2 (by omega)
              have e10 : ((j : Int) != (cn : Int) - 1) = false := by rw [bne, e9]; rfl
              clear HLS HMD
              obtain ⟨qb_0, qb_1, qb_2, qb_3, qb_4, qb_5, qb_6, qb_7, qb_8, qb_9, qb_10⟩ := Kb.out.c11
              have lb := Kb.out.lt
              go_wp2_with fail
              refine (CD.out _ BB.out).mono ?_
              rintro e U251 ⟨rfl, bU251⟩
              clear qb_0 qb_1 qb_2 qb_3 qb_4 qb_5 qb_6 qb_7 qb_8 qb_9 qb_10 lb
              replace BB := Lib.hid (below3 BB.out bU251)
              replace Ka := Lib.hid (Ka.out.below bU251 Ka.out.lt)
              replace Kb := Lib.hid (Kb.out.below bU251 Kb.out.lt)
              replace Kc := Lib.hid (Kc.out.below bU251 Kc.out.lt)
              replace Ke := Lib.hid (Ke.out.below bU251 Ke.out.lt)
              clear bU251
              obtain ⟨kn, km, ba⟩ := lies2 U251 #[.int .i64 v0, .int .i64 v1, .int .i64 v2, .int .i64 v3, .int .i64 v4, .int .i64 v5, .int .i64 v6, .int .i64 v7, .int .i64 v8, .int .i64 v9, .int .i64 v10] #[.int .i64 vo, .int .i64 va, .int .i64 vb] 24 28
              have hgb := BB.out.size
              have na_d := Ka.out.lt
              have nb_d := Kb.out.lt
              have nc_d := Kc.out.lt
              have ne_d := Ke.out.lt
              replace BB := Lib.hid (below3 BB.out ba)
              replace Ka := Lib.hid (Ka.out.below ba Ka.out.lt)
              replace Kb := Lib.hid (Kb.out.below ba Kb.out.lt)
              replace Kc := Lib.hid (Kc.out.below ba Kc.out.lt)
              replace Ke := Lib.hid (Ke.out.below ba Ke.out.lt)
              obtain ⟨gd, hg⟩ : ∃ g, U251.heap.size = g := ⟨_, rfl⟩
              obtain ⟨V252, hW⟩ : ∃ W, (U251.alloc (.cells #[.int .i64 v0, .int .i64 v1, .int .i64 v2, .int .i64 v3, .int .i64 v4, .int .i64 v5, .int .i64 v6, .int .i64 v7, .int .i64 v8, .int .i64 v9, .int .i64 v10] 24)).alloc (.cells #[.int .i64 vo, .int .i64 va, .int .i64 vb] 28) = W := ⟨_, rfl⟩
              rw [hW] at BB kn km Ka Kb Kc Ke
              rw [hg] at kn km hgb na_d nb_d nc_d ne_d
              have Kd := Lib.hid kn
              have Kf := Lib.hid km
              have HGa := Lib.hid hg
              have HWa := Lib.hid hW
              have HBd := Lib.hid hgb
              have HBf : Hid (w.heap.size ≤ gd + 1) := Lib.hid (by omega)
              have Nd_f : Hid (gd ≠ gd + 1) := Lib.hid (by omega)
              have Na_d : Hid (ga ≠ gd) := Lib.hid (by omega)
              have Na_f : Hid (ga ≠ gd + 1) := Lib.hid (by omega)
              have Nb_d : Hid (gb ≠ gd) := Lib.hid (by omega)
              have Nb_f : Hid (gb ≠ gd + 1) := Lib.hid (by omega)
              have Nc_d : Hid (gc ≠ gd) := Lib.hid (by omega)
              have Nc_f : Hid (gc ≠ gd + 1) := Lib.hid (by omega)
              have Ne_d : Hid ((gc + 1) ≠ gd) := Lib.hid (by omega)
              have Ne_f : Hid ((gc + 1) ≠ gd + 1) := Lib.hid (by omega)
              clear hW hg kn km ba hgb na_d nb_d nc_d ne_d
              go_upto_region 21 with fail
              rw [HWa.out]
              try rw [HGa.out]
              clear HWa HGa
              obtain ⟨qf_0, qf_1, qf_2⟩ := Kf.out.c3
              have lf := Kf.out.lt
              obtain ⟨qe_0, qe_1, qe_2⟩ := Ke.out.c3
              have le := Ke.out.lt
              obtain ⟨qd_0, qd_1, qd_2, qd_3, qd_4, qd_5, qd_6, qd_7, qd_8, qd_9, qd_10⟩ := Kd.out.c11
              have ld := Kd.out.lt
              obtain ⟨qb_0, qb_1, qb_2, qb_3, qb_4, qb_5, qb_6, qb_7, qb_8, qb_9, qb_10⟩ := Kb.out.c11
              have lb := Kb.out.lt
              obtain ⟨fb_0, fb_1, fb_2, fb_3, fb_4, fb_5, fb_6, fb_7, fb_8, fb_9, fb_10⟩ := Kb.out.f11
              have x0 := bk_set11 Kb.out (.int .i64 v0) (.int .i64 v1) (.int .i64 v2) (.int .i64 v3) (.int .i64 v4) (.int .i64 v5) (.int .i64 v6) (.int .i64 v7) (.int .i64 v8) (.int .i64 v9) (.int .i64 v10)
              have xb := below_set11 (g := gb) BB.out HBb.out (.int .i64 v0) (.int .i64 v1) (.int .i64 v2) (.int .i64 v3) (.int .i64 v4) (.int .i64 v5) (.int .i64 v6) (.int .i64 v7) (.int .i64 v8) (.int .i64 v9) (.int .i64 v10)
              have x_a := far_set11 Ka.out Na_b.out (.int .i64 v0) (.int .i64 v1) (.int .i64 v2) (.int .i64 v3) (.int .i64 v4) (.int .i64 v5) (.int .i64 v6) (.int .i64 v7) (.int .i64 v8) (.int .i64 v9) (.int .i64 v10)
              have x_c := far_set11 Kc.out Nb_c.out.symm (.int .i64 v0) (.int .i64 v1) (.int .i64 v2) (.int .i64 v3) (.int .i64 v4) (.int .i64 v5) (.int .i64 v6) (.int .i64 v7) (.int .i64 v8) (.int .i64 v9) (.int .i64 v10)
              have x_e := far_set11 Ke.out Nb_e.out.symm (.int .i64 v0) (.int .i64 v1) (.int .i64 v2) (.int .i64 v3) (.int .i64 v4) (.int .i64 v5) (.int .i64 v6) (.int .i64 v7) (.int .i64 v8) (.int .i64 v9) (.int .i64 v10)
              have x_d := far_set11 Kd.out Nb_d.out.symm (.int .i64 v0) (.int .i64 v1) (.int .i64 v2) (.int .i64 v3) (.int .i64 v4) (.int .i64 v5) (.int .i64 v6) (.int .i64 v7) (.int .i64 v8) (.int .i64 v9) (.int .i64 v10)
              have x_f := far_set11 Kf.out Nb_f.out.symm (.int .i64 v0) (.int .i64 v1) (.int .i64 v2) (.int .i64 v3) (.int .i64 v4) (.int .i64 v5) (.int .i64 v6) (.int .i64 v7) (.int .i64 v8) (.int .i64 v9) (.int .i64 v10)
              obtain ⟨S253, hX⟩ : ∃ X, set11 V252 gb (.int .i64 v0) (.int .i64 v1) (.int .i64 v2) (.int .i64 v3) (.int .i64 v4) (.int .i64 v5) (.int .i64 v6) (.int .i64 v7) (.int .i64 v8) (.int .i64 v9) (.int .i64 v10) = X := ⟨_, rfl⟩
              have hs : S253.heap.size = V252.heap.size := by rw [← hX]; unfold set11; simp
              rw [hX] at x0 xb x_a x_c x_e x_d x_f
              unfold set11 at hX
              have HX := Lib.hid hX
              have HS := Lib.hid hs
              replace Kb := Lib.hid x0
              replace BB := Lib.hid xb
              replace Ka := Lib.hid x_a
              replace Kc := Lib.hid x_c
              replace Ke := Lib.hid x_e
              replace Kd := Lib.hid x_d
              replace Kf := Lib.hid x_f
              clear hX hs x0 xb x_a x_c x_e x_d x_f
              go_upto_region 24 with fail
              rw [HX.out]
              clear HX HS
              clear qf_0 qf_1 qf_2 lf qe_0 qe_1 qe_2 le qd_0 qd_1 qd_2 qd_3 qd_4 qd_5 qd_6 qd_7 qd_8 qd_9 qd_10 ld qb_0 qb_1 qb_2 qb_3 qb_4 qb_5 qb_6 qb_7 qb_8 qb_9 qb_10 lb fb_0 fb_1 fb_2 fb_3 fb_4 fb_5 fb_6 fb_7 fb_8 fb_9 fb_10
              have J2 : Hid (SlJ w _ ga gb gc TT0 ⟨v0, v1, v2, v3, v4, v5, v6, v7, v8, v9, v10⟩ TT2 ⟨vo, va, vb⟩) := Lib.hid ⟨HTT0.out ▸ Ka.out, Kb.out, HTT2.out ▸ Kc.out, Ke.out, BB.out⟩
              clear Ka Kb Kc Ke Kd Kf BB
              go_wp2_with fail
              go_roundw
              case rel => exact ⟨j + 1, by omega, by go_num, by rw [HSJ.out]; exact J2⟩
              case measure => simp [intOf]; omega
            · have hv := HMD.out (by omega)
              subst hv
              have e9 : ((j : Int) == (cn : Int) - 1) = false := beq_eq_false_iff_ne.2 (by omega)
              clear HLS HMD
              obtain ⟨qb_0, qb_1, qb_2, qb_3, qb_4, qb_5, qb_6, qb_7, qb_8, qb_9, qb_10⟩ := Kb.out.c11
              have lb := Kb.out.lt
              go_wp2_with fail
              refine (CD.out _ BB.out).mono ?_
              rintro e U251 ⟨rfl, bU251⟩
              clear qb_0 qb_1 qb_2 qb_3 qb_4 qb_5 qb_6 qb_7 qb_8 qb_9 qb_10 lb
              replace BB := Lib.hid (below3 BB.out bU251)
              replace Ka := Lib.hid (Ka.out.below bU251 Ka.out.lt)
              replace Kb := Lib.hid (Kb.out.below bU251 Kb.out.lt)
              replace Kc := Lib.hid (Kc.out.below bU251 Kc.out.lt)
              replace Ke := Lib.hid (Ke.out.below bU251 Ke.out.lt)
              clear bU251
              obtain ⟨kn, km, ba⟩ := lies2 U251 #[.int .i64 v0, .int .i64 v1, .int .i64 v2, .int .i64 v3, .int .i64 v4, .int .i64 v5, .int .i64 v6, .int .i64 v7, .int .i64 v8, .int .i64 v9, .int .i64 v10] #[.int .i64 0, .int .i64 va, .int .i64 vb] 24 28
              have hgb := BB.out.size
              have na_d := Ka.out.lt
              have nb_d := Kb.out.lt
              have nc_d := Kc.out.lt
              have ne_d := Ke.out.lt
              replace BB := Lib.hid (below3 BB.out ba)
              replace Ka := Lib.hid (Ka.out.below ba Ka.out.lt)
              replace Kb := Lib.hid (Kb.out.below ba Kb.out.lt)
              replace Kc := Lib.hid (Kc.out.below ba Kc.out.lt)
              replace Ke := Lib.hid (Ke.out.below ba Ke.out.lt)
              obtain ⟨gd, hg⟩ : ∃ g, U251.heap.size = g := ⟨_, rfl⟩
              obtain ⟨V252, hW⟩ : ∃ W, (U251.alloc (.cells #[.int .i64 v0, .int .i64 v1, .int .i64 v2, .int .i64 v3, .int .i64 v4, .int .i64 v5, .int .i64 v6, .int .i64 v7, .int .i64 v8, .int .i64 v9, .int .i64 v10] 24)).alloc (.cells #[.int .i64 0, .int .i64 va, .int .i64 vb] 28) = W := ⟨_, rfl⟩
              rw [hW] at BB kn km Ka Kb Kc Ke
              rw [hg] at kn km hgb na_d nb_d nc_d ne_d
              have Kd := Lib.hid kn
              have Kf := Lib.hid km
              have HGa := Lib.hid hg
              have HWa := Lib.hid hW
              have HBd := Lib.hid hgb
              have HBf : Hid (w.heap.size ≤ gd + 1) := Lib.hid (by omega)
              have Nd_f : Hid (gd ≠ gd + 1) := Lib.hid (by omega)
              have Na_d : Hid (ga ≠ gd) := Lib.hid (by omega)
              have Na_f : Hid (ga ≠ gd + 1) := Lib.hid (by omega)
              have Nb_d : Hid (gb ≠ gd) := Lib.hid (by omega)
              have Nb_f : Hid (gb ≠ gd + 1) := Lib.hid (by omega)
              have Nc_d : Hid (gc ≠ gd) := Lib.hid (by omega)
              have Nc_f : Hid (gc ≠ gd + 1) := Lib.hid (by omega)
              have Ne_d : Hid ((gc + 1) ≠ gd) := Lib.hid (by omega)
              have Ne_f : Hid ((gc + 1) ≠ gd + 1) := Lib.hid (by omega)
              clear hW hg kn km ba hgb na_d nb_d nc_d ne_d
              go_upto_region 21 with fail
              rw [HWa.out]
              try rw [HGa.out]
              clear HWa HGa
              obtain ⟨qf_0, qf_1, qf_2⟩ := Kf.out.c3
              have lf := Kf.out.lt
              obtain ⟨qe_0, qe_1, qe_2⟩ := Ke.out.c3
              have le := Ke.out.lt
              obtain ⟨qd_0, qd_1, qd_2, qd_3, qd_4, qd_5, qd_6, qd_7, qd_8, qd_9, qd_10⟩ := Kd.out.c11
              have ld := Kd.out.lt
              obtain ⟨qb_0, qb_1, qb_2, qb_3, qb_4, qb_5, qb_6, qb_7, qb_8, qb_9, qb_10⟩ := Kb.out.c11
              have lb := Kb.out.lt
              obtain ⟨fb_0, fb_1, fb_2, fb_3, fb_4, fb_5, fb_6, fb_7, fb_8, fb_9, fb_10⟩ := Kb.out.f11
              have x0 := bk_set11 Kb.out (.int .i64 v0) (.int .i64 v1) (.int .i64 v2) (.int .i64 v3) (.int .i64 v4) (.int .i64 v5) (.int .i64 v6) (.int .i64 v7) (.int .i64 v8) (.int .i64 v9) (.int .i64 v10)
              have xb := below_set11 (g := gb) BB.out HBb.out (.int .i64 v0) (.int .i64 v1) (.int .i64 v2) (.int .i64 v3) (.int .i64 v4) (.int .i64 v5) (.int .i64 v6) (.int .i64 v7) (.int .i64 v8) (.int .i64 v9) (.int .i64 v10)
              have x_a := far_set11 Ka.out Na_b.out (.int .i64 v0) (.int .i64 v1) (.int .i64 v2) (.int .i64 v3) (.int .i64 v4) (.int .i64 v5) (.int .i64 v6) (.int .i64 v7) (.int .i64 v8) (.int .i64 v9) (.int .i64 v10)
              have x_c := far_set11 Kc.out Nb_c.out.symm (.int .i64 v0) (.int .i64 v1) (.int .i64 v2) (.int .i64 v3) (.int .i64 v4) (.int .i64 v5) (.int .i64 v6) (.int .i64 v7) (.int .i64 v8) (.int .i64 v9) (.int .i64 v10)
              have x_e := far_set11 Ke.out Nb_e.out.symm (.int .i64 v0) (.int .i64 v1) (.int .i64 v2) (.int .i64 v3) (.int .i64 v4) (.int .i64 v5) (.int .i64 v6) (.int .i64 v7) (.int .i64 v8) (.int .i64 v9) (.int .i64 v10)
              have x_d := far_set11 Kd.out Nb_d.out.symm (.int .i64 v0) (.int .i64 v1) (.int .i64 v2) (.int .i64 v3) (.int .i64 v4) (.int .i64 v5) (.int .i64 v6) (.int .i64 v7) (.int .i64 v8) (.int .i64 v9) (.int .i64 v10)
              have x_f := far_set11 Kf.out Nb_f.out.symm (.int .i64 v0) (.int .i64 v1) (.int .i64 v2) (.int .i64 v3) (.int .i64 v4) (.int .i64 v5) (.int .i64 v6) (.int .i64 v7) (.int .i64 v8) (.int .i64 v9) (.int .i64 v10)
              obtain ⟨S253, hX⟩ : ∃ X, set11 V252 gb (.int .i64 v0) (.int .i64 v1) (.int .i64 v2) (.int .i64 v3) (.int .i64 v4) (.int .i64 v5) (.int .i64 v6) (.int .i64 v7) (.int .i64 v8) (.int .i64 v9) (.int .i64 v10) = X := ⟨_, rfl⟩
              have hs : S253.heap.size = V252.heap.size := by rw [← hX]; unfold set11; simp
              rw [hX] at x0 xb x_a x_c x_e x_d x_f
              unfold set11 at hX
              have HX := Lib.hid hX
              have HS := Lib.hid hs
              replace Kb := Lib.hid x0
              replace BB := Lib.hid xb
              replace Ka := Lib.hid x_a
              replace Kc := Lib.hid x_c
              replace Ke := Lib.hid x_e
              replace Kd := Lib.hid x_d
              replace Kf := Lib.hid x_f
              clear hX hs x0 xb x_a x_c x_e x_d x_f
              go_upto_region 24 with fail
              rw [HX.out]
              clear HX HS
              clear qf_0 qf_1 qf_2 lf qe_0 qe_1 qe_2 le qd_0 qd_1 qd_2 qd_3 qd_4 qd_5 qd_6 qd_7 qd_8 qd_9 qd_10 ld qb_0 qb_1 qb_2 qb_3 qb_4 qb_5 qb_6 qb_7 qb_8 qb_9 qb_10 lb fb_0 fb_1 fb_2 fb_3 fb_4 fb_5 fb_6 fb_7 fb_8 fb_9 fb_10
              have J2 : Hid (SlJ w _ ga gb gc TT0 ⟨v0, v1, v2, v3, v4, v5, v6, v7, v8, v9, v10⟩ TT2 ⟨xo, xa, xb⟩) := Lib.hid ⟨HTT0.out ▸ Ka.out, Kb.out, HTT2.out ▸ Kc.out, Ke.out, BB.out⟩
              clear Ka Kb Kc Ke Kd Kf BB
              go_wp2_with fail
              go_roundw
              case rel => exact ⟨j + 1, by omega, by go_num, by rw [HSJ.out]; exact J2⟩
              case measure => simp [intOf]; omega
          · obtain rfl : j = cn := by omega
            have hfin := HQ.out.fin
            rw [hfin] at HJ
            clear hfin
            have Ka := Lib.hid HJ.out.a
            have Kb := Lib.hid HJ.out.b
            have Kc := Lib.hid HJ.out.c
            have Ke := Lib.hid HJ.out.e
            have BB := Lib.hid HJ.out.w
            clear HJ
            rw [← HTT2.out] at Kb Kc
            rw [← HTT0.out] at Ka
            unfold tc at Ka Kb Kc
            dsimp only at Ka Kb Kc
            have E1 := neq_task ⟨y0, y1, y2, y3, y4, y5, y6, y7, y8, y9, y10⟩
            unfold tc at E1
            dsimp only at E1
            obtain ⟨qa_0, qa_1, qa_2, qa_3, qa_4, qa_5, qa_6, qa_7, qa_8, qa_9, qa_10⟩ := Ka.out.c11
            have la := Ka.out.lt
            obtain ⟨fa_0, fa_1, fa_2, fa_3, fa_4, fa_5, fa_6, fa_7, fa_8, fa_9, fa_10⟩ := Ka.out.f11
            obtain ⟨qc_0, qc_1, qc_2, qc_3, qc_4, qc_5, qc_6, qc_7, qc_8, qc_9, qc_10⟩ := Kc.out.c11
            have lc := Kc.out.lt
            have x0 := bk_set11 Ka.out (.int .i64 y0) (.int .i64 y1) (.int .i64 y2) (.int .i64 y3) (.int .i64 y4) (.int .i64 y5) (.int .i64 y6) (.int .i64 y7) (.int .i64 y8) (.int .i64 y9) (.int .i64 y10)
            have xb := below_set11 (g := ga) BB.out HBa.out (.int .i64 y0) (.int .i64 y1) (.int .i64 y2) (.int .i64 y3) (.int .i64 y4) (.int .i64 y5) (.int .i64 y6) (.int .i64 y7) (.int .i64 y8) (.int .i64 y9) (.int .i64 y10)
            have x_b := far_set11 Kb.out Na_b.out.symm (.int .i64 y0) (.int .i64 y1) (.int .i64 y2) (.int .i64 y3) (.int .i64 y4) (.int .i64 y5) (.int .i64 y6) (.int .i64 y7) (.int .i64 y8) (.int .i64 y9) (.int .i64 y10)
            have x_c := far_set11 Kc.out Na_c.out.symm (.int .i64 y0) (.int .i64 y1) (.int .i64 y2) (.int .i64 y3) (.int .i64 y4) (.int .i64 y5) (.int .i64 y6) (.int .i64 y7) (.int .i64 y8) (.int .i64 y9) (.int .i64 y10)
            have x_e := far_set11 Ke.out Na_e.out.symm (.int .i64 y0) (.int .i64 y1) (.int .i64 y2) (.int .i64 y3) (.int .i64 y4) (.int .i64 y5) (.int .i64 y6) (.int .i64 y7) (.int .i64 y8) (.int .i64 y9) (.int .i64 y10)
            obtain ⟨S301, hX⟩ : ∃ X, set11 ws ga (.int .i64 y0) (.int .i64 y1) (.int .i64 y2) (.int .i64 y3) (.int .i64 y4) (.int .i64 y5) (.int .i64 y6) (.int .i64 y7) (.int .i64 y8) (.int .i64 y9) (.int .i64 y10) = X := ⟨_, rfl⟩
            have hs : S301.heap.size = ws.heap.size := by rw [← hX]; unfold set11; simp
            rw [hX] at x0 xb x_b x_c x_e
            unfold set11 at hX
            have HX := Lib.hid hX
            have HS := Lib.hid hs
            replace Ka := Lib.hid x0
            replace BB := Lib.hid xb
            replace Kb := Lib.hid x_b
            replace Kc := Lib.hid x_c
            replace Ke := Lib.hid x_e
            clear hX hs x0 xb x_b x_c x_e
            go_upto_region 26 with fail
            rw [HX.out]
            clear HX HS
            clear qa_0 qa_1 qa_2 qa_3 qa_4 qa_5 qa_6 qa_7 qa_8 qa_9 qa_10 la fa_0 fa_1 fa_2 fa_3 fa_4 fa_5 fa_6 fa_7 fa_8 fa_9 fa_10 qc_0 qc_1 qc_2 qc_3 qc_4 qc_5 qc_6 qc_7 qc_8 qc_9 qc_10 lc
            obtain ⟨qa_0, qa_1, qa_2, qa_3, qa_4, qa_5, qa_6, qa_7, qa_8, qa_9, qa_10⟩ := Ka.out.c11
            have la := Ka.out.lt
            obtain ⟨qb_0, qb_1, qb_2, qb_3, qb_4, qb_5, qb_6, qb_7, qb_8, qb_9, qb_10⟩ := Kb.out.c11
            have lb := Kb.out.lt
            have I2 : Hid (SlO w _ ga gb TT2) := Lib.hid ⟨HTT2.out ▸ Ka.out, HTT2.out ▸ Kb.out, BB.out⟩
            clear Ka Kb Kc Ke BB
            go_wp2_with fail
            go_roundw
            case rel => exact ⟨i + 1, TT2, by omega, by go_num, HG2, I2⟩
            case measure => simp [intOf]; omega
    · have BB := Lib.hid HI.out.w
      clear HI HG
      go_wp2
      go_ret
      exact ⟨rfl, BB.out⟩

theorem lslices_any (id : Int) (A : Option Addr) (n c : Nat) (p : List I3) (A2 : Option Addr) (m c2 : Nat) (zs : List Int) (w : World) (hp : Prog w A n c p) (hm : m ≤ 9223372036854775807) (ho : m ≤ 140737488351232 → Octs w A2 m zs) (hF : Fol w) : Calls Tryd.prog 5 #[.int .i64 id, .slice A n c, .slice A2 m c2] w (TrueAns w) := by
  by_cases hb : 40 < n
  · exact lslices_1 id A n c p A2 m c2 zs w hp hm ho hF hb
  · by_cases hi : id < 0
    · exact lslices_2 id A n c p A2 m c2 zs w hp hm ho hF hb hi
    · by_cases hc : 60 < m
      · exact lslices_3 id A n c p A2 m c2 zs w hp hm ho hF hb hi hc
      · by_cases h : okP p
        · exact lslices_5 id A n c p A2 m c2 zs w hp hm ho hF hb hi hc h
        · exact lslices_4 id A n c p A2 m c2 zs w hp hm ho hF hb hi hc h

end Go.Proofs.YtlbmlhcphoiaeaaDoor

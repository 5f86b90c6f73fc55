/-
  The law PickDoes of layer 16, walked.
-/
import Derived.Test.YtljfinfjchkphaaPkf
namespace Go.Proofs.Ytljfinfjchkphaa
open Go.RowKit

set_option maxRecDepth 100000 in
set_option maxHeartbeats 8000000 in
theorem pickdoes_any (A B E F : Option Addr) (N c nh dh nt dt nf ef : Nat) (p n me : Int) (bs hs : List Int) (ts : List Tn) (fs : List Bool) (w : World) (hm : N ≤ 9223372036854775807) (ho : N ≤ 140737488351232 → Octs w A N bs) (hh : Ints w B nh hs) (ht : Tns w E nt dt ts) (hfm : nf ≤ 9223372036854775807) (hf0 : nf ≤ 400 → Flags w F nf fs) (hfn : Fit n) :
    Calls Try.prog 3 #[.agg #[.slice A N c, .int .i64 p], .int .i64 n, .int .i64 me, .slice B nh dh, .slice E nt dt, .slice F nf ef] w (RetB (.bool true) w) := by
  have hh1 := hh.2.1
  have ht1 := ht.2.1
  by_cases g0 : 1000 < (N : Int)
  · replace g0 : decide (1000 < (N : Int)) = true := decide_eq_true g0
    obtain ⟨kb0, hb0⟩ := lay1 w #[.slice A N c, .int .i64 p] 24
    obtain ⟨V, hV⟩ : ∃ V, w.alloc (.cells #[.slice A N c, .int .i64 p] 24) = V := ⟨_, rfl⟩
    rw [hV] at hb0 kb0
    have HV := Lib.hid hV
    have BB := Lib.hid hb0
    have KD := Lib.hid kb0
    clear hV hb0 kb0
    go_enter Try.func3, Try.ntmps3
    go_upto_region 1 with fail
    rw [HV.out]
    clear HV
    go_wp2_with fail
    refine (live16_any _).mono ?_
    try dsimp only
    rintro e U1 ⟨rfl, bU1⟩
    replace KD := Lib.hid (KD.out.below bU1 KD.out.lt)
    replace BB := Lib.hid (below3 BB.out bU1)
    clear bU1
    have rKD_0 := KD.out.c0
    have rKD_1 := KD.out.c1
    have rKD_l := KD.out.lt
    go_wp2
    go_ret
    exact ⟨rfl, BB.out⟩
  · by_cases g1 : 200 < (nh : Int)
    · replace g0 : decide (1000 < (N : Int)) = false := decide_eq_false g0
      replace g1 : decide (200 < (nh : Int)) = true := decide_eq_true g1
      obtain ⟨kb0, hb0⟩ := lay1 w #[.slice A N c, .int .i64 p] 24
      obtain ⟨V, hV⟩ : ∃ V, w.alloc (.cells #[.slice A N c, .int .i64 p] 24) = V := ⟨_, rfl⟩
      rw [hV] at hb0 kb0
      have HV := Lib.hid hV
      have BB := Lib.hid hb0
      have KD := Lib.hid kb0
      clear hV hb0 kb0
      go_enter Try.func3, Try.ntmps3
      go_upto_region 1 with fail
      rw [HV.out]
      clear HV
      go_wp2_with fail
      refine (live16_any _).mono ?_
      try dsimp only
      rintro e U1 ⟨rfl, bU1⟩
      replace KD := Lib.hid (KD.out.below bU1 KD.out.lt)
      replace BB := Lib.hid (below3 BB.out bU1)
      clear bU1
      have rKD_0 := KD.out.c0
      have rKD_1 := KD.out.c1
      have rKD_l := KD.out.lt
      go_wp2
      go_ret
      exact ⟨rfl, BB.out⟩
    · by_cases g2 : 100 < (nt : Int)
      · replace g0 : decide (1000 < (N : Int)) = false := decide_eq_false g0
        replace g1 : decide (200 < (nh : Int)) = false := decide_eq_false g1
        replace g2 : decide (100 < (nt : Int)) = true := decide_eq_true g2
        obtain ⟨kb0, hb0⟩ := lay1 w #[.slice A N c, .int .i64 p] 24
        obtain ⟨V, hV⟩ : ∃ V, w.alloc (.cells #[.slice A N c, .int .i64 p] 24) = V := ⟨_, rfl⟩
        rw [hV] at hb0 kb0
        have HV := Lib.hid hV
        have BB := Lib.hid hb0
        have KD := Lib.hid kb0
        clear hV hb0 kb0
        go_enter Try.func3, Try.ntmps3
        go_upto_region 1 with fail
        rw [HV.out]
        clear HV
        go_wp2_with fail
        refine (live16_any _).mono ?_
        try dsimp only
        rintro e U1 ⟨rfl, bU1⟩
        replace KD := Lib.hid (KD.out.below bU1 KD.out.lt)
        replace BB := Lib.hid (below3 BB.out bU1)
        clear bU1
        have rKD_0 := KD.out.c0
        have rKD_1 := KD.out.c1
        have rKD_l := KD.out.lt
        go_wp2
        go_ret
        exact ⟨rfl, BB.out⟩
      · by_cases g3 : 100 < (nf : Int)
        · replace g0 : decide (1000 < (N : Int)) = false := decide_eq_false g0
          replace g1 : decide (200 < (nh : Int)) = false := decide_eq_false g1
          replace g2 : decide (100 < (nt : Int)) = false := decide_eq_false g2
          replace g3 : decide (100 < (nf : Int)) = true := decide_eq_true g3
          obtain ⟨kb0, hb0⟩ := lay1 w #[.slice A N c, .int .i64 p] 24
          obtain ⟨V, hV⟩ : ∃ V, w.alloc (.cells #[.slice A N c, .int .i64 p] 24) = V := ⟨_, rfl⟩
          rw [hV] at hb0 kb0
          have HV := Lib.hid hV
          have BB := Lib.hid hb0
          have KD := Lib.hid kb0
          clear hV hb0 kb0
          go_enter Try.func3, Try.ntmps3
          go_upto_region 1 with fail
          rw [HV.out]
          clear HV
          go_wp2_with fail
          refine (live16_any _).mono ?_
          try dsimp only
          rintro e U1 ⟨rfl, bU1⟩
          replace KD := Lib.hid (KD.out.below bU1 KD.out.lt)
          replace BB := Lib.hid (below3 BB.out bU1)
          clear bU1
          have rKD_0 := KD.out.c0
          have rKD_1 := KD.out.c1
          have rKD_l := KD.out.lt
          go_wp2
          go_ret
          exact ⟨rfl, BB.out⟩
        · have hf := hf0 (by omega)
          clear hf0
          have hN : N ≤ 1000 := by omega
          have ho1 := ho (by omega)
          clear ho
          replace g0 : decide (1000 < (N : Int)) = false := decide_eq_false g0
          replace g1 : decide (200 < (nh : Int)) = false := decide_eq_false g1
          replace g2 : decide (100 < (nt : Int)) = false := decide_eq_false g2
          replace g3 : decide (100 < (nf : Int)) = false := decide_eq_false g3
          obtain ⟨⟨vs, rs, q, er⟩, hz⟩ : ∃ a, vicPk bs N p n me = a := ⟨_, rfl⟩
          have HV := Lib.hid hz
          clear hz
          obtain ⟨⟨x2, rs2, q2, e2⟩, hz⟩ : ∃ a, stealPk bs N hs nh p me = a := ⟨_, rfl⟩
          have HS := Lib.hid hz
          clear hz
          obtain ⟨⟨x3, rs3, q3, e3⟩, hz⟩ : ∃ a, luckPk bs N ts fs p = a := ⟨_, rfl⟩
          have HY := Lib.hid hz
          clear hz
          obtain ⟨⟨a1, e4⟩, hz⟩ : ∃ a, halfPk n = a := ⟨_, rfl⟩
          have HA := Lib.hid hz
          clear hz
          obtain ⟨⟨a2, e5⟩, hz⟩ : ∃ a, spillPk n = a := ⟨_, rfl⟩
          have HP := Lib.hid hz
          clear hz
          obtain ⟨nv, hz⟩ : ∃ m, vs.length = m := ⟨_, rfl⟩
          have HNV := Lib.hid hz
          clear hz
          have HFN := Lib.hid hfn
          clear hfn
          obtain ⟨kb0, hb0⟩ := lay1 w #[.slice A N c, .int .i64 p] 24
          have OD := Lib.hid (ho1.below hb0)
          have IH := Lib.hid (hh.below hb0)
          have TT := Lib.hid (ht.below hb0)
          have FF := Lib.hid (hf.below hb0)
          obtain ⟨V, hV⟩ : ∃ V, w.alloc (.cells #[.slice A N c, .int .i64 p] 24) = V := ⟨_, rfl⟩
          rw [hV] at hb0 kb0 OD IH TT FF
          have HV := Lib.hid hV
          have BB := Lib.hid hb0
          have KD := Lib.hid kb0
          clear hV hb0 kb0
          go_enter Try.func3, Try.ntmps3
          go_upto_region 1 with fail
          rw [HV.out]
          clear HV
          go_wp2_with fail
          refine (live16_any _).mono ?_
          try dsimp only
          rintro e U1 ⟨rfl, bU1⟩
          replace KD := Lib.hid (KD.out.below bU1 KD.out.lt)
          replace OD := Lib.hid (OD.out.below bU1)
          replace IH := Lib.hid (IH.out.below bU1)
          replace TT := Lib.hid (TT.out.below bU1)
          replace FF := Lib.hid (FF.out.below bU1)
          replace BB := Lib.hid (below3 BB.out bU1)
          clear bU1
          have rKD_0 := KD.out.c0
          have rKD_1 := KD.out.c1
          have rKD_l := KD.out.lt
          go_upto_region 6 with fail
          clear rKD_0 rKD_1 rKD_l
          have rKD_0 := KD.out.c0
          have rKD_1 := KD.out.c1
          have rKD_l := KD.out.lt
          go_wp2_with fail
          refine (vic_any A N c p n me bs _ OD.out).mono ?_
          rw [HV.out]
          rintro e U2 ⟨A1, c1, B1, d1, he, oi, oo, bU2⟩
          dsimp only at he oi oo
          rw [HNV.out] at he
          subst he
          have I1 := Lib.hid (oi.intsN HNV.out)
          have O1 := Lib.hid oo.octs
          clear oi oo
          clear rKD_0 rKD_1 rKD_l
          replace KD := Lib.hid (KD.out.below bU2 KD.out.lt)
          replace OD := Lib.hid (OD.out.below bU2)
          replace IH := Lib.hid (IH.out.below bU2)
          replace TT := Lib.hid (TT.out.below bU2)
          replace FF := Lib.hid (FF.out.below bU2)
          replace BB := Lib.hid (below3 BB.out bU2)
          clear bU2
          have kt := Bk.new U2 24 #[.slice A1 rs.length c1, .int .i64 q]
          have ba := (Below.refl U2.heap.size U2).alloc (Nat.le_refl _) (.cells #[.slice A1 rs.length c1, .int .i64 q] 24)
          replace KD := Lib.hid (KD.out.below ba KD.out.lt)
          replace OD := Lib.hid (OD.out.below ba)
          replace IH := Lib.hid (IH.out.below ba)
          replace TT := Lib.hid (TT.out.below ba)
          replace FF := Lib.hid (FF.out.below ba)
          replace I1 := Lib.hid (I1.out.below ba)
          replace O1 := Lib.hid (O1.out.below ba)
          replace BB := Lib.hid (below3 BB.out ba)
          clear ba
          have K1 := Lib.hid kt
          clear kt
          obtain ⟨W3, hW⟩ : ∃ W, U2.alloc (.cells #[.slice A1 rs.length c1, .int .i64 q] 24) = W := ⟨_, rfl⟩
          rw [hW] at K1 BB KD OD IH TT FF I1 O1
          obtain ⟨gK1, hg⟩ : ∃ g, U2.heap.size = g := ⟨_, rfl⟩
          rw [hg] at K1
          have HW := Lib.hid hW
          have HG := Lib.hid hg
          clear hW hg
          go_upto_region 7 with fail
          rw [HW.out]
          try rw [HG.out]
          clear HW HG
          have rKD_0 := KD.out.c0
          have rKD_1 := KD.out.c1
          have rKD_l := KD.out.lt
          go_wp2_with fail
          refine (rvic_any A N c p n me bs _ OD.out hN).mono ?_
          rw [HV.out]
          rintro e U4 ⟨A2, c2, B2, d2, he, oi, oo, bU4⟩
          dsimp only at he oi oo
          rw [HNV.out] at he
          subst he
          have I2 := Lib.hid (oi.intsN HNV.out)
          have O2 := Lib.hid oo.octs
          clear oi oo
          clear rKD_0 rKD_1 rKD_l
          replace KD := Lib.hid (KD.out.below bU4 KD.out.lt)
          replace K1 := Lib.hid (K1.out.below bU4 K1.out.lt)
          replace OD := Lib.hid (OD.out.below bU4)
          replace IH := Lib.hid (IH.out.below bU4)
          replace TT := Lib.hid (TT.out.below bU4)
          replace FF := Lib.hid (FF.out.below bU4)
          replace I1 := Lib.hid (I1.out.below bU4)
          replace O1 := Lib.hid (O1.out.below bU4)
          replace BB := Lib.hid (below3 BB.out bU4)
          clear bU4
          have kt := Bk.new U4 24 #[.slice A2 rs.length c2, .int .i64 q]
          have ba := (Below.refl U4.heap.size U4).alloc (Nat.le_refl _) (.cells #[.slice A2 rs.length c2, .int .i64 q] 24)
          replace KD := Lib.hid (KD.out.below ba KD.out.lt)
          replace K1 := Lib.hid (K1.out.below ba K1.out.lt)
          replace OD := Lib.hid (OD.out.below ba)
          replace IH := Lib.hid (IH.out.below ba)
          replace TT := Lib.hid (TT.out.below ba)
          replace FF := Lib.hid (FF.out.below ba)
          replace I1 := Lib.hid (I1.out.below ba)
          replace O1 := Lib.hid (O1.out.below ba)
          replace I2 := Lib.hid (I2.out.below ba)
          replace O2 := Lib.hid (O2.out.below ba)
          replace BB := Lib.hid (below3 BB.out ba)
          clear ba
          have K2 := Lib.hid kt
          clear kt
          obtain ⟨W5, hW⟩ : ∃ W, U4.alloc (.cells #[.slice A2 rs.length c2, .int .i64 q] 24) = W := ⟨_, rfl⟩
          rw [hW] at K2 BB KD K1 OD IH TT FF I1 O1 I2 O2
          obtain ⟨gK2, hg⟩ : ∃ g, U4.heap.size = g := ⟨_, rfl⟩
          rw [hg] at K2
          have HW := Lib.hid hW
          have HG := Lib.hid hg
          clear hW hg
          go_upto_region 8 with fail
          rw [HW.out]
          try rw [HG.out]
          clear HW HG
          have rKD_0 := KD.out.c0
          have rKD_1 := KD.out.c1
          have rKD_l := KD.out.lt
          go_wp2_with fail
          refine (steal_any A B N c nh dh p me bs hs _ OD.out IH.out).mono ?_
          rw [HS.out]
          rintro e U6 ⟨A3, c3, rfl, oo, bU6⟩
          dsimp only at oo ⊢
          have O3 := Lib.hid oo.octs
          clear oo
          clear rKD_0 rKD_1 rKD_l
          replace KD := Lib.hid (KD.out.below bU6 KD.out.lt)
          replace K1 := Lib.hid (K1.out.below bU6 K1.out.lt)
          replace K2 := Lib.hid (K2.out.below bU6 K2.out.lt)
          replace OD := Lib.hid (OD.out.below bU6)
          replace IH := Lib.hid (IH.out.below bU6)
          replace TT := Lib.hid (TT.out.below bU6)
          replace FF := Lib.hid (FF.out.below bU6)
          replace I1 := Lib.hid (I1.out.below bU6)
          replace O1 := Lib.hid (O1.out.below bU6)
          replace I2 := Lib.hid (I2.out.below bU6)
          replace O2 := Lib.hid (O2.out.below bU6)
          replace BB := Lib.hid (below3 BB.out bU6)
          clear bU6
          have kt := Bk.new U6 24 #[.slice A3 rs2.length c3, .int .i64 q2]
          have ba := (Below.refl U6.heap.size U6).alloc (Nat.le_refl _) (.cells #[.slice A3 rs2.length c3, .int .i64 q2] 24)
          replace KD := Lib.hid (KD.out.below ba KD.out.lt)
          replace K1 := Lib.hid (K1.out.below ba K1.out.lt)
          replace K2 := Lib.hid (K2.out.below ba K2.out.lt)
          replace OD := Lib.hid (OD.out.below ba)
          replace IH := Lib.hid (IH.out.below ba)
          replace TT := Lib.hid (TT.out.below ba)
          replace FF := Lib.hid (FF.out.below ba)
          replace I1 := Lib.hid (I1.out.below ba)
          replace O1 := Lib.hid (O1.out.below ba)
          replace I2 := Lib.hid (I2.out.below ba)
          replace O2 := Lib.hid (O2.out.below ba)
          replace O3 := Lib.hid (O3.out.below ba)
          replace BB := Lib.hid (below3 BB.out ba)
          clear ba
          have K3 := Lib.hid kt
          clear kt
          obtain ⟨W7, hW⟩ : ∃ W, U6.alloc (.cells #[.slice A3 rs2.length c3, .int .i64 q2] 24) = W := ⟨_, rfl⟩
          rw [hW] at K3 BB KD K1 K2 OD IH TT FF I1 O1 I2 O2 O3
          obtain ⟨gK3, hg⟩ : ∃ g, U6.heap.size = g := ⟨_, rfl⟩
          rw [hg] at K3
          have HW := Lib.hid hW
          have HG := Lib.hid hg
          clear hW hg
          go_upto_region 9 with fail
          rw [HW.out]
          try rw [HG.out]
          clear HW HG
          have rKD_0 := KD.out.c0
          have rKD_1 := KD.out.c1
          have rKD_l := KD.out.lt
          go_wp2_with fail
          refine (rsteal_any A B N c nh dh p me bs hs _ OD.out hN IH.out).mono ?_
          rw [HS.out]
          rintro e U8 ⟨A4, c4, rfl, oo, bU8⟩
          dsimp only at oo ⊢
          have O4 := Lib.hid oo.octs
          clear oo
          clear rKD_0 rKD_1 rKD_l
          replace KD := Lib.hid (KD.out.below bU8 KD.out.lt)
          replace K1 := Lib.hid (K1.out.below bU8 K1.out.lt)
          replace K2 := Lib.hid (K2.out.below bU8 K2.out.lt)
          replace K3 := Lib.hid (K3.out.below bU8 K3.out.lt)
          replace OD := Lib.hid (OD.out.below bU8)
          replace IH := Lib.hid (IH.out.below bU8)
          replace TT := Lib.hid (TT.out.below bU8)
          replace FF := Lib.hid (FF.out.below bU8)
          replace I1 := Lib.hid (I1.out.below bU8)
          replace O1 := Lib.hid (O1.out.below bU8)
          replace I2 := Lib.hid (I2.out.below bU8)
          replace O2 := Lib.hid (O2.out.below bU8)
          replace O3 := Lib.hid (O3.out.below bU8)
          replace BB := Lib.hid (below3 BB.out bU8)
          clear bU8
          have kt := Bk.new U8 24 #[.slice A4 rs2.length c4, .int .i64 q2]
          have ba := (Below.refl U8.heap.size U8).alloc (Nat.le_refl _) (.cells #[.slice A4 rs2.length c4, .int .i64 q2] 24)
          replace KD := Lib.hid (KD.out.below ba KD.out.lt)
          replace K1 := Lib.hid (K1.out.below ba K1.out.lt)
          replace K2 := Lib.hid (K2.out.below ba K2.out.lt)
          replace K3 := Lib.hid (K3.out.below ba K3.out.lt)
          replace OD := Lib.hid (OD.out.below ba)
          replace IH := Lib.hid (IH.out.below ba)
          replace TT := Lib.hid (TT.out.below ba)
          replace FF := Lib.hid (FF.out.below ba)
          replace I1 := Lib.hid (I1.out.below ba)
          replace O1 := Lib.hid (O1.out.below ba)
          replace I2 := Lib.hid (I2.out.below ba)
          replace O2 := Lib.hid (O2.out.below ba)
          replace O3 := Lib.hid (O3.out.below ba)
          replace O4 := Lib.hid (O4.out.below ba)
          replace BB := Lib.hid (below3 BB.out ba)
          clear ba
          have K4 := Lib.hid kt
          clear kt
          obtain ⟨W9, hW⟩ : ∃ W, U8.alloc (.cells #[.slice A4 rs2.length c4, .int .i64 q2] 24) = W := ⟨_, rfl⟩
          rw [hW] at K4 BB KD K1 K2 K3 OD IH TT FF I1 O1 I2 O2 O3 O4
          obtain ⟨gK4, hg⟩ : ∃ g, U8.heap.size = g := ⟨_, rfl⟩
          rw [hg] at K4
          have HW := Lib.hid hW
          have HG := Lib.hid hg
          clear hW hg
          go_upto_region 10 with fail
          rw [HW.out]
          try rw [HG.out]
          clear HW HG
          have rKD_0 := KD.out.c0
          have rKD_1 := KD.out.c1
          have rKD_l := KD.out.lt
          go_wp2_with fail
          refine (lucky_any A E F N c nt dt nf ef p bs ts fs _ OD.out TT.out FF.out).mono ?_
          rw [HY.out]
          rintro e U10 ⟨A5, c5, rfl, oo, bU10⟩
          dsimp only at oo ⊢
          have O5 := Lib.hid oo.octs
          clear oo
          clear rKD_0 rKD_1 rKD_l
          replace KD := Lib.hid (KD.out.below bU10 KD.out.lt)
          replace K1 := Lib.hid (K1.out.below bU10 K1.out.lt)
          replace K2 := Lib.hid (K2.out.below bU10 K2.out.lt)
          replace K3 := Lib.hid (K3.out.below bU10 K3.out.lt)
          replace K4 := Lib.hid (K4.out.below bU10 K4.out.lt)
          replace OD := Lib.hid (OD.out.below bU10)
          replace IH := Lib.hid (IH.out.below bU10)
          replace TT := Lib.hid (TT.out.below bU10)
          replace FF := Lib.hid (FF.out.below bU10)
          replace I1 := Lib.hid (I1.out.below bU10)
          replace O1 := Lib.hid (O1.out.below bU10)
          replace I2 := Lib.hid (I2.out.below bU10)
          replace O2 := Lib.hid (O2.out.below bU10)
          replace O3 := Lib.hid (O3.out.below bU10)
          replace O4 := Lib.hid (O4.out.below bU10)
          replace BB := Lib.hid (below3 BB.out bU10)
          clear bU10
          have kt := Bk.new U10 24 #[.slice A5 rs3.length c5, .int .i64 q3]
          have ba := (Below.refl U10.heap.size U10).alloc (Nat.le_refl _) (.cells #[.slice A5 rs3.length c5, .int .i64 q3] 24)
          replace KD := Lib.hid (KD.out.below ba KD.out.lt)
          replace K1 := Lib.hid (K1.out.below ba K1.out.lt)
          replace K2 := Lib.hid (K2.out.below ba K2.out.lt)
          replace K3 := Lib.hid (K3.out.below ba K3.out.lt)
          replace K4 := Lib.hid (K4.out.below ba K4.out.lt)
          replace OD := Lib.hid (OD.out.below ba)
          replace IH := Lib.hid (IH.out.below ba)
          replace TT := Lib.hid (TT.out.below ba)
          replace FF := Lib.hid (FF.out.below ba)
          replace I1 := Lib.hid (I1.out.below ba)
          replace O1 := Lib.hid (O1.out.below ba)
          replace I2 := Lib.hid (I2.out.below ba)
          replace O2 := Lib.hid (O2.out.below ba)
          replace O3 := Lib.hid (O3.out.below ba)
          replace O4 := Lib.hid (O4.out.below ba)
          replace O5 := Lib.hid (O5.out.below ba)
          replace BB := Lib.hid (below3 BB.out ba)
          clear ba
          have K5 := Lib.hid kt
          clear kt
          obtain ⟨W11, hW⟩ : ∃ W, U10.alloc (.cells #[.slice A5 rs3.length c5, .int .i64 q3] 24) = W := ⟨_, rfl⟩
          rw [hW] at K5 BB KD K1 K2 K3 K4 OD IH TT FF I1 O1 I2 O2 O3 O4 O5
          obtain ⟨gK5, hg⟩ : ∃ g, U10.heap.size = g := ⟨_, rfl⟩
          rw [hg] at K5
          have HW := Lib.hid hW
          have HG := Lib.hid hg
          clear hW hg
          go_upto_region 11 with fail
          rw [HW.out]
          try rw [HG.out]
          clear HW HG
          have rKD_0 := KD.out.c0
          have rKD_1 := KD.out.c1
          have rKD_l := KD.out.lt
          go_wp2_with fail
          refine (rlucky_any A E F N c nt dt nf ef p bs ts fs _ OD.out TT.out FF.out hN).mono ?_
          rw [HY.out]
          rintro e U12 ⟨A6, c6, rfl, oo, bU12⟩
          dsimp only at oo ⊢
          have O6 := Lib.hid oo.octs
          clear oo
          clear rKD_0 rKD_1 rKD_l
          replace KD := Lib.hid (KD.out.below bU12 KD.out.lt)
          replace K1 := Lib.hid (K1.out.below bU12 K1.out.lt)
          replace K2 := Lib.hid (K2.out.below bU12 K2.out.lt)
          replace K3 := Lib.hid (K3.out.below bU12 K3.out.lt)
          replace K4 := Lib.hid (K4.out.below bU12 K4.out.lt)
          replace K5 := Lib.hid (K5.out.below bU12 K5.out.lt)
          replace OD := Lib.hid (OD.out.below bU12)
          replace IH := Lib.hid (IH.out.below bU12)
          replace TT := Lib.hid (TT.out.below bU12)
          replace FF := Lib.hid (FF.out.below bU12)
          replace I1 := Lib.hid (I1.out.below bU12)
          replace O1 := Lib.hid (O1.out.below bU12)
          replace I2 := Lib.hid (I2.out.below bU12)
          replace O2 := Lib.hid (O2.out.below bU12)
          replace O3 := Lib.hid (O3.out.below bU12)
          replace O4 := Lib.hid (O4.out.below bU12)
          replace O5 := Lib.hid (O5.out.below bU12)
          replace BB := Lib.hid (below3 BB.out bU12)
          clear bU12
          have kt := Bk.new U12 24 #[.slice A6 rs3.length c6, .int .i64 q3]
          have ba := (Below.refl U12.heap.size U12).alloc (Nat.le_refl _) (.cells #[.slice A6 rs3.length c6, .int .i64 q3] 24)
          replace KD := Lib.hid (KD.out.below ba KD.out.lt)
          replace K1 := Lib.hid (K1.out.below ba K1.out.lt)
          replace K2 := Lib.hid (K2.out.below ba K2.out.lt)
          replace K3 := Lib.hid (K3.out.below ba K3.out.lt)
          replace K4 := Lib.hid (K4.out.below ba K4.out.lt)
          replace K5 := Lib.hid (K5.out.below ba K5.out.lt)
          replace OD := Lib.hid (OD.out.below ba)
          replace IH := Lib.hid (IH.out.below ba)
          replace TT := Lib.hid (TT.out.below ba)
          replace FF := Lib.hid (FF.out.below ba)
          replace I1 := Lib.hid (I1.out.below ba)
          replace O1 := Lib.hid (O1.out.below ba)
          replace I2 := Lib.hid (I2.out.below ba)
          replace O2 := Lib.hid (O2.out.below ba)
          replace O3 := Lib.hid (O3.out.below ba)
          replace O4 := Lib.hid (O4.out.below ba)
          replace O5 := Lib.hid (O5.out.below ba)
          replace O6 := Lib.hid (O6.out.below ba)
          replace BB := Lib.hid (below3 BB.out ba)
          clear ba
          have K6 := Lib.hid kt
          clear kt
          obtain ⟨W13, hW⟩ : ∃ W, U12.alloc (.cells #[.slice A6 rs3.length c6, .int .i64 q3] 24) = W := ⟨_, rfl⟩
          rw [hW] at K6 BB KD K1 K2 K3 K4 K5 OD IH TT FF I1 O1 I2 O2 O3 O4 O5 O6
          obtain ⟨gK6, hg⟩ : ∃ g, U12.heap.size = g := ⟨_, rfl⟩
          rw [hg] at K6
          have HW := Lib.hid hW
          have HG := Lib.hid hg
          clear hW hg
          go_upto_region 12 with fail
          rw [HW.out]
          try rw [HG.out]
          clear HW HG
          go_wp2_with fail
          refine (half_pk n _ HFN.out).mono ?_
          rw [HA.out]
          try dsimp only
          rintro e U14 ⟨rfl, bU14⟩
          replace KD := Lib.hid (KD.out.below bU14 KD.out.lt)
          replace K1 := Lib.hid (K1.out.below bU14 K1.out.lt)
          replace K2 := Lib.hid (K2.out.below bU14 K2.out.lt)
          replace K3 := Lib.hid (K3.out.below bU14 K3.out.lt)
          replace K4 := Lib.hid (K4.out.below bU14 K4.out.lt)
          replace K5 := Lib.hid (K5.out.below bU14 K5.out.lt)
          replace K6 := Lib.hid (K6.out.below bU14 K6.out.lt)
          replace OD := Lib.hid (OD.out.below bU14)
          replace IH := Lib.hid (IH.out.below bU14)
          replace TT := Lib.hid (TT.out.below bU14)
          replace FF := Lib.hid (FF.out.below bU14)
          replace I1 := Lib.hid (I1.out.below bU14)
          replace O1 := Lib.hid (O1.out.below bU14)
          replace I2 := Lib.hid (I2.out.below bU14)
          replace O2 := Lib.hid (O2.out.below bU14)
          replace O3 := Lib.hid (O3.out.below bU14)
          replace O4 := Lib.hid (O4.out.below bU14)
          replace O5 := Lib.hid (O5.out.below bU14)
          replace O6 := Lib.hid (O6.out.below bU14)
          replace BB := Lib.hid (below3 BB.out bU14)
          clear bU14
          go_wp2_with fail
          refine (rhalf_pk n _ HFN.out).mono ?_
          rw [HA.out]
          try dsimp only
          rintro e U15 ⟨rfl, bU15⟩
          replace KD := Lib.hid (KD.out.below bU15 KD.out.lt)
          replace K1 := Lib.hid (K1.out.below bU15 K1.out.lt)
          replace K2 := Lib.hid (K2.out.below bU15 K2.out.lt)
          replace K3 := Lib.hid (K3.out.below bU15 K3.out.lt)
          replace K4 := Lib.hid (K4.out.below bU15 K4.out.lt)
          replace K5 := Lib.hid (K5.out.below bU15 K5.out.lt)
          replace K6 := Lib.hid (K6.out.below bU15 K6.out.lt)
          replace OD := Lib.hid (OD.out.below bU15)
          replace IH := Lib.hid (IH.out.below bU15)
          replace TT := Lib.hid (TT.out.below bU15)
          replace FF := Lib.hid (FF.out.below bU15)
          replace I1 := Lib.hid (I1.out.below bU15)
          replace O1 := Lib.hid (O1.out.below bU15)
          replace I2 := Lib.hid (I2.out.below bU15)
          replace O2 := Lib.hid (O2.out.below bU15)
          replace O3 := Lib.hid (O3.out.below bU15)
          replace O4 := Lib.hid (O4.out.below bU15)
          replace O5 := Lib.hid (O5.out.below bU15)
          replace O6 := Lib.hid (O6.out.below bU15)
          replace BB := Lib.hid (below3 BB.out bU15)
          clear bU15
          go_wp2_with fail
          refine (spill_pk n _ HFN.out).mono ?_
          rw [HP.out]
          try dsimp only
          rintro e U16 ⟨rfl, bU16⟩
          replace KD := Lib.hid (KD.out.below bU16 KD.out.lt)
          replace K1 := Lib.hid (K1.out.below bU16 K1.out.lt)
          replace K2 := Lib.hid (K2.out.below bU16 K2.out.lt)
          replace K3 := Lib.hid (K3.out.below bU16 K3.out.lt)
          replace K4 := Lib.hid (K4.out.below bU16 K4.out.lt)
          replace K5 := Lib.hid (K5.out.below bU16 K5.out.lt)
          replace K6 := Lib.hid (K6.out.below bU16 K6.out.lt)
          replace OD := Lib.hid (OD.out.below bU16)
          replace IH := Lib.hid (IH.out.below bU16)
          replace TT := Lib.hid (TT.out.below bU16)
          replace FF := Lib.hid (FF.out.below bU16)
          replace I1 := Lib.hid (I1.out.below bU16)
          replace O1 := Lib.hid (O1.out.below bU16)
          replace I2 := Lib.hid (I2.out.below bU16)
          replace O2 := Lib.hid (O2.out.below bU16)
          replace O3 := Lib.hid (O3.out.below bU16)
          replace O4 := Lib.hid (O4.out.below bU16)
          replace O5 := Lib.hid (O5.out.below bU16)
          replace O6 := Lib.hid (O6.out.below bU16)
          replace BB := Lib.hid (below3 BB.out bU16)
          clear bU16
          go_wp2_with fail
          refine (rspill_pk n _ HFN.out).mono ?_
          rw [HP.out]
          try dsimp only
          rintro e U17 ⟨rfl, bU17⟩
          replace KD := Lib.hid (KD.out.below bU17 KD.out.lt)
          replace K1 := Lib.hid (K1.out.below bU17 K1.out.lt)
          replace K2 := Lib.hid (K2.out.below bU17 K2.out.lt)
          replace K3 := Lib.hid (K3.out.below bU17 K3.out.lt)
          replace K4 := Lib.hid (K4.out.below bU17 K4.out.lt)
          replace K5 := Lib.hid (K5.out.below bU17 K5.out.lt)
          replace K6 := Lib.hid (K6.out.below bU17 K6.out.lt)
          replace OD := Lib.hid (OD.out.below bU17)
          replace IH := Lib.hid (IH.out.below bU17)
          replace TT := Lib.hid (TT.out.below bU17)
          replace FF := Lib.hid (FF.out.below bU17)
          replace I1 := Lib.hid (I1.out.below bU17)
          replace O1 := Lib.hid (O1.out.below bU17)
          replace I2 := Lib.hid (I2.out.below bU17)
          replace O2 := Lib.hid (O2.out.below bU17)
          replace O3 := Lib.hid (O3.out.below bU17)
          replace O4 := Lib.hid (O4.out.below bU17)
          replace O5 := Lib.hid (O5.out.below bU17)
          replace O6 := Lib.hid (O6.out.below bU17)
          replace BB := Lib.hid (below3 BB.out bU17)
          clear bU17
          go_wp2_with fail
          refine (sameInts_pk _ _ nv d1 nv d2 vs vs _ I1.out I2.out).mono ?_
          rw [sameB_refl]
          try dsimp only
          rintro e U18 ⟨rfl, bU18⟩
          replace KD := Lib.hid (KD.out.below bU18 KD.out.lt)
          replace K1 := Lib.hid (K1.out.below bU18 K1.out.lt)
          replace K2 := Lib.hid (K2.out.below bU18 K2.out.lt)
          replace K3 := Lib.hid (K3.out.below bU18 K3.out.lt)
          replace K4 := Lib.hid (K4.out.below bU18 K4.out.lt)
          replace K5 := Lib.hid (K5.out.below bU18 K5.out.lt)
          replace K6 := Lib.hid (K6.out.below bU18 K6.out.lt)
          replace OD := Lib.hid (OD.out.below bU18)
          replace IH := Lib.hid (IH.out.below bU18)
          replace TT := Lib.hid (TT.out.below bU18)
          replace FF := Lib.hid (FF.out.below bU18)
          replace I1 := Lib.hid (I1.out.below bU18)
          replace O1 := Lib.hid (O1.out.below bU18)
          replace I2 := Lib.hid (I2.out.below bU18)
          replace O2 := Lib.hid (O2.out.below bU18)
          replace O3 := Lib.hid (O3.out.below bU18)
          replace O4 := Lib.hid (O4.out.below bU18)
          replace O5 := Lib.hid (O5.out.below bU18)
          replace O6 := Lib.hid (O6.out.below bU18)
          replace BB := Lib.hid (below3 BB.out bU18)
          clear bU18
          have rK1_0 := K1.out.c0
          have rK1_1 := K1.out.c1
          have rK1_l := K1.out.lt
          have rK2_0 := K2.out.c0
          have rK2_1 := K2.out.c1
          have rK2_l := K2.out.lt
          go_wp2_with fail
          refine (rsame_any A1 A2 rs.length rs.length c1 c2 q q rs rs _ O1.out O2.out).mono ?_
          rw [dsame_refl]
          try dsimp only
          rintro e U19 ⟨rfl, bU19⟩
          replace KD := Lib.hid (KD.out.below bU19 KD.out.lt)
          replace K1 := Lib.hid (K1.out.below bU19 K1.out.lt)
          replace K2 := Lib.hid (K2.out.below bU19 K2.out.lt)
          replace K3 := Lib.hid (K3.out.below bU19 K3.out.lt)
          replace K4 := Lib.hid (K4.out.below bU19 K4.out.lt)
          replace K5 := Lib.hid (K5.out.below bU19 K5.out.lt)
          replace K6 := Lib.hid (K6.out.below bU19 K6.out.lt)
          replace OD := Lib.hid (OD.out.below bU19)
          replace IH := Lib.hid (IH.out.below bU19)
          replace TT := Lib.hid (TT.out.below bU19)
          replace FF := Lib.hid (FF.out.below bU19)
          replace I1 := Lib.hid (I1.out.below bU19)
          replace O1 := Lib.hid (O1.out.below bU19)
          replace I2 := Lib.hid (I2.out.below bU19)
          replace O2 := Lib.hid (O2.out.below bU19)
          replace O3 := Lib.hid (O3.out.below bU19)
          replace O4 := Lib.hid (O4.out.below bU19)
          replace O5 := Lib.hid (O5.out.below bU19)
          replace O6 := Lib.hid (O6.out.below bU19)
          replace BB := Lib.hid (below3 BB.out bU19)
          clear bU19
          clear rK1_0 rK1_1 rK1_l
          clear rK2_0 rK2_1 rK2_l
          have rK3_0 := K3.out.c0
          have rK3_1 := K3.out.c1
          have rK3_l := K3.out.lt
          have rK4_0 := K4.out.c0
          have rK4_1 := K4.out.c1
          have rK4_l := K4.out.lt
          go_wp2_with fail
          refine (rsame_any A3 A4 rs2.length rs2.length c3 c4 q2 q2 rs2 rs2 _ O3.out O4.out).mono ?_
          rw [dsame_refl]
          try dsimp only
          rintro e U20 ⟨rfl, bU20⟩
          replace KD := Lib.hid (KD.out.below bU20 KD.out.lt)
          replace K1 := Lib.hid (K1.out.below bU20 K1.out.lt)
          replace K2 := Lib.hid (K2.out.below bU20 K2.out.lt)
          replace K3 := Lib.hid (K3.out.below bU20 K3.out.lt)
          replace K4 := Lib.hid (K4.out.below bU20 K4.out.lt)
          replace K5 := Lib.hid (K5.out.below bU20 K5.out.lt)
          replace K6 := Lib.hid (K6.out.below bU20 K6.out.lt)
          replace OD := Lib.hid (OD.out.below bU20)
          replace IH := Lib.hid (IH.out.below bU20)
          replace TT := Lib.hid (TT.out.below bU20)
          replace FF := Lib.hid (FF.out.below bU20)
          replace I1 := Lib.hid (I1.out.below bU20)
          replace O1 := Lib.hid (O1.out.below bU20)
          replace I2 := Lib.hid (I2.out.below bU20)
          replace O2 := Lib.hid (O2.out.below bU20)
          replace O3 := Lib.hid (O3.out.below bU20)
          replace O4 := Lib.hid (O4.out.below bU20)
          replace O5 := Lib.hid (O5.out.below bU20)
          replace O6 := Lib.hid (O6.out.below bU20)
          replace BB := Lib.hid (below3 BB.out bU20)
          clear bU20
          clear rK3_0 rK3_1 rK3_l
          clear rK4_0 rK4_1 rK4_l
          have rK5_0 := K5.out.c0
          have rK5_1 := K5.out.c1
          have rK5_l := K5.out.lt
          have rK6_0 := K6.out.c0
          have rK6_1 := K6.out.c1
          have rK6_l := K6.out.lt
          go_wp2_with fail
          refine (rsame_any A5 A6 rs3.length rs3.length c5 c6 q3 q3 rs3 rs3 _ O5.out O6.out).mono ?_
          rw [dsame_refl]
          try dsimp only
          rintro e U21 ⟨rfl, bU21⟩
          replace KD := Lib.hid (KD.out.below bU21 KD.out.lt)
          replace K1 := Lib.hid (K1.out.below bU21 K1.out.lt)
          replace K2 := Lib.hid (K2.out.below bU21 K2.out.lt)
          replace K3 := Lib.hid (K3.out.below bU21 K3.out.lt)
          replace K4 := Lib.hid (K4.out.below bU21 K4.out.lt)
          replace K5 := Lib.hid (K5.out.below bU21 K5.out.lt)
          replace K6 := Lib.hid (K6.out.below bU21 K6.out.lt)
          replace OD := Lib.hid (OD.out.below bU21)
          replace IH := Lib.hid (IH.out.below bU21)
          replace TT := Lib.hid (TT.out.below bU21)
          replace FF := Lib.hid (FF.out.below bU21)
          replace I1 := Lib.hid (I1.out.below bU21)
          replace O1 := Lib.hid (O1.out.below bU21)
          replace I2 := Lib.hid (I2.out.below bU21)
          replace O2 := Lib.hid (O2.out.below bU21)
          replace O3 := Lib.hid (O3.out.below bU21)
          replace O4 := Lib.hid (O4.out.below bU21)
          replace O5 := Lib.hid (O5.out.below bU21)
          replace O6 := Lib.hid (O6.out.below bU21)
          replace BB := Lib.hid (below3 BB.out bU21)
          clear bU21
          clear rK5_0 rK5_1 rK5_l
          clear rK6_0 rK6_1 rK6_l
          go_wp2
          go_ret
          exact ⟨rfl, BB.out⟩

end Go.Proofs.Ytljfinfjchkphaa

/-
  The law IdleDoes of layer 17, walked.
-/
import Derived.Test.YtmndkofdoclihaaLiBack
import Derived.BigRegion
import Derived.Deep.LoopGhost
import Derived.Deep.CutBlock
namespace Go.Proofs.Ytmndkofdoclihaa
open Go.RowKit

set_option maxRecDepth 100000 in
set_option maxHeartbeats 16000000 in
theorem idledoes_any (A B C D : Option Addr) (n a m b k c l d : Nat) (x i what : Int) (is st it su : List Int) (w : World) (_ : Fit x) (_ : Fit i) (_ : Fit what) (hi : Ints w A n is) (hs : Ints w B m st) (hj : Ints w C k it) (ht : Ints w D l su) :
    Calls Try.prog 3 #[.int .i64 x, .agg #[.slice A n a, .slice B m b], .agg #[.slice C k c, .slice D l d], .int .i64 i, .int .i64 what] w (RetB (.bool true) w) := by
  have hn0 := hi.2.1
  have hm0 := hs.2.1
  have hk0 := hj.2.1
  have hl0 := ht.2.1
  by_cases g0 : 100 < (n : Int)
  · replace g0 := decide_eq_true g0
    clear hi hs hj ht
    obtain ⟨kb0, kb1, hb0⟩ := lies2 w #[.slice A n a, .slice B m b] #[.slice C k c, .slice D l d] 24 24
    obtain ⟨V, hV⟩ : ∃ V, (w.alloc (.cells #[.slice A n a, .slice B m b] 24)).alloc (.cells #[.slice C k c, .slice D l d] 24) = V := ⟨_, rfl⟩
    rw [hV] at hb0 kb0 kb1
    have HV := Lib.hid hV
    have BB := Lib.hid hb0
    have KD := Lib.hid kb0
    have HBD : Hid (w.heap.size ≤ w.heap.size) := Lib.hid (by omega)
    have KO := Lib.hid kb1
    have HBO : Hid (w.heap.size ≤ (w.heap.size + 1)) := Lib.hid (by omega)
    have OD_O : Hid (w.heap.size < (w.heap.size + 1)) := Lib.hid (by omega)
    clear hV hb0 kb0 kb1
    go_enter Try.func3, Try.ntmps3
    go_upto_region 1 with fail
    rw [HV.out]
    clear HV
    go_wp2_with fail
    refine (live_wo _).mono ?_
    try dsimp only
    rintro e U1 ⟨rfl, bU1⟩
    replace KD := Lib.hid (KD.out.below bU1 KD.out.lt)
    replace KO := Lib.hid (KO.out.below bU1 KO.out.lt)
    replace BB := Lib.hid (below3 BB.out bU1)
    clear bU1
    obtain ⟨qD_0, qD_1⟩ := KD.out.c2w
    have lD := KD.out.lt
    obtain ⟨qO_0, qO_1⟩ := KO.out.c2w
    have lO := KO.out.lt
    go_wp2_with fail
    go_ret
    exact ⟨rfl, BB.out⟩
  · by_cases g1 : 100 < (m : Int)
    · replace g0 := decide_eq_false g0
      replace g1 := decide_eq_true g1
      clear hi hs hj ht
      obtain ⟨kb0, kb1, hb0⟩ := lies2 w #[.slice A n a, .slice B m b] #[.slice C k c, .slice D l d] 24 24
      obtain ⟨V, hV⟩ : ∃ V, (w.alloc (.cells #[.slice A n a, .slice B m b] 24)).alloc (.cells #[.slice C k c, .slice D l d] 24) = V := ⟨_, rfl⟩
      rw [hV] at hb0 kb0 kb1
      have HV := Lib.hid hV
      have BB := Lib.hid hb0
      have KD := Lib.hid kb0
      have HBD : Hid (w.heap.size ≤ w.heap.size) := Lib.hid (by omega)
      have KO := Lib.hid kb1
      have HBO : Hid (w.heap.size ≤ (w.heap.size + 1)) := Lib.hid (by omega)
      have OD_O : Hid (w.heap.size < (w.heap.size + 1)) := Lib.hid (by omega)
      clear hV hb0 kb0 kb1
      go_enter Try.func3, Try.ntmps3
      go_upto_region 1 with fail
      rw [HV.out]
      clear HV
      go_wp2_with fail
      refine (live_wo _).mono ?_
      try dsimp only
      rintro e U1 ⟨rfl, bU1⟩
      replace KD := Lib.hid (KD.out.below bU1 KD.out.lt)
      replace KO := Lib.hid (KO.out.below bU1 KO.out.lt)
      replace BB := Lib.hid (below3 BB.out bU1)
      clear bU1
      obtain ⟨qD_0, qD_1⟩ := KD.out.c2w
      have lD := KD.out.lt
      obtain ⟨qO_0, qO_1⟩ := KO.out.c2w
      have lO := KO.out.lt
      go_wp2_with fail
      go_ret
      exact ⟨rfl, BB.out⟩
    · by_cases g2 : 100 < (k : Int)
      · replace g0 := decide_eq_false g0
        replace g1 := decide_eq_false g1
        replace g2 := decide_eq_true g2
        clear hi hs hj ht
        obtain ⟨kb0, kb1, hb0⟩ := lies2 w #[.slice A n a, .slice B m b] #[.slice C k c, .slice D l d] 24 24
        obtain ⟨V, hV⟩ : ∃ V, (w.alloc (.cells #[.slice A n a, .slice B m b] 24)).alloc (.cells #[.slice C k c, .slice D l d] 24) = V := ⟨_, rfl⟩
        rw [hV] at hb0 kb0 kb1
        have HV := Lib.hid hV
        have BB := Lib.hid hb0
        have KD := Lib.hid kb0
        have HBD : Hid (w.heap.size ≤ w.heap.size) := Lib.hid (by omega)
        have KO := Lib.hid kb1
        have HBO : Hid (w.heap.size ≤ (w.heap.size + 1)) := Lib.hid (by omega)
        have OD_O : Hid (w.heap.size < (w.heap.size + 1)) := Lib.hid (by omega)
        clear hV hb0 kb0 kb1
        go_enter Try.func3, Try.ntmps3
        go_upto_region 1 with fail
        rw [HV.out]
        clear HV
        go_wp2_with fail
        refine (live_wo _).mono ?_
        try dsimp only
        rintro e U1 ⟨rfl, bU1⟩
        replace KD := Lib.hid (KD.out.below bU1 KD.out.lt)
        replace KO := Lib.hid (KO.out.below bU1 KO.out.lt)
        replace BB := Lib.hid (below3 BB.out bU1)
        clear bU1
        obtain ⟨qD_0, qD_1⟩ := KD.out.c2w
        have lD := KD.out.lt
        obtain ⟨qO_0, qO_1⟩ := KO.out.c2w
        have lO := KO.out.lt
        go_wp2_with fail
        go_ret
        exact ⟨rfl, BB.out⟩
      · by_cases g3 : 100 < (l : Int)
        · replace g0 := decide_eq_false g0
          replace g1 := decide_eq_false g1
          replace g2 := decide_eq_false g2
          replace g3 := decide_eq_true g3
          clear hi hs hj ht
          obtain ⟨kb0, kb1, hb0⟩ := lies2 w #[.slice A n a, .slice B m b] #[.slice C k c, .slice D l d] 24 24
          obtain ⟨V, hV⟩ : ∃ V, (w.alloc (.cells #[.slice A n a, .slice B m b] 24)).alloc (.cells #[.slice C k c, .slice D l d] 24) = V := ⟨_, rfl⟩
          rw [hV] at hb0 kb0 kb1
          have HV := Lib.hid hV
          have BB := Lib.hid hb0
          have KD := Lib.hid kb0
          have HBD : Hid (w.heap.size ≤ w.heap.size) := Lib.hid (by omega)
          have KO := Lib.hid kb1
          have HBO : Hid (w.heap.size ≤ (w.heap.size + 1)) := Lib.hid (by omega)
          have OD_O : Hid (w.heap.size < (w.heap.size + 1)) := Lib.hid (by omega)
          clear hV hb0 kb0 kb1
          go_enter Try.func3, Try.ntmps3
          go_upto_region 1 with fail
          rw [HV.out]
          clear HV
          go_wp2_with fail
          refine (live_wo _).mono ?_
          try dsimp only
          rintro e U1 ⟨rfl, bU1⟩
          replace KD := Lib.hid (KD.out.below bU1 KD.out.lt)
          replace KO := Lib.hid (KO.out.below bU1 KO.out.lt)
          replace BB := Lib.hid (below3 BB.out bU1)
          clear bU1
          obtain ⟨qD_0, qD_1⟩ := KD.out.c2w
          have lD := KD.out.lt
          obtain ⟨qO_0, qO_1⟩ := KO.out.c2w
          have lO := KO.out.lt
          go_wp2_with fail
          go_ret
          exact ⟨rfl, BB.out⟩
        · replace g0 := decide_eq_false g0
          replace g1 := decide_eq_false g1
          replace g2 := decide_eq_false g2
          replace g3 := decide_eq_false g3
          obtain ⟨s0, hs0⟩ : ∃ l : List Int, [] = l := ⟨_, rfl⟩
          obtain ⟨⟨j0, e0⟩, hz⟩ : ∃ r, newWo x = r := ⟨_, rfl⟩
          have HN := Lib.hid (newW_of hz hs0)
          clear hz hs0
          obtain ⟨⟨p1, i1, s1, e1⟩, hz⟩ : ∃ a, spinWo is st i = a := ⟨_, rfl⟩
          have HS := Lib.hid hz
          clear hz
          obtain ⟨⟨i2, s2, e2⟩, hz⟩ : ∃ a, foundWo is st i = a := ⟨_, rfl⟩
          have HF := Lib.hid hz
          clear hz
          obtain ⟨⟨i3, s3, e3⟩, hz⟩ : ∃ a, annWo is st i = a := ⟨_, rfl⟩
          have HA := Lib.hid hz
          clear hz
          obtain ⟨⟨i4, s4, e4⟩, hz⟩ : ∃ a, parkWo is st i = a := ⟨_, rfl⟩
          have HP := Lib.hid hz
          clear hz
          obtain ⟨⟨v, i5, s5, e5⟩, hz⟩ : ∃ a, wakeWo is st = a := ⟨_, rfl⟩
          have HWK := Lib.hid hz
          clear hz
          obtain ⟨⟨cv, ce⟩, hz⟩ : ∃ a, countWo is st what = a := ⟨_, rfl⟩
          have HC := Lib.hid hz
          clear hz
          obtain ⟨ck, hz⟩ : ∃ a, chkWo is st = a := ⟨_, rfl⟩
          have HK := Lib.hid hz
          clear hz
          obtain ⟨sm, hz⟩ : ∃ a, sameWo is st it su = a := ⟨_, rfl⟩
          have HM := Lib.hid hz
          clear hz
          have HI := Lib.hid hi
          have HST := Lib.hid hs
          have HJ := Lib.hid hj
          have HT := Lib.hid ht
          clear hi hs hj ht
          obtain ⟨kb0, kb1, hb0⟩ := lies2 w #[.slice A n a, .slice B m b] #[.slice C k c, .slice D l d] 24 24
          obtain ⟨V, hV⟩ : ∃ V, (w.alloc (.cells #[.slice A n a, .slice B m b] 24)).alloc (.cells #[.slice C k c, .slice D l d] 24) = V := ⟨_, rfl⟩
          rw [hV] at hb0 kb0 kb1
          have HV := Lib.hid hV
          have BB := Lib.hid hb0
          have KD := Lib.hid kb0
          have HBD : Hid (w.heap.size ≤ w.heap.size) := Lib.hid (by omega)
          have KO := Lib.hid kb1
          have HBO : Hid (w.heap.size ≤ (w.heap.size + 1)) := Lib.hid (by omega)
          have OD_O : Hid (w.heap.size < (w.heap.size + 1)) := Lib.hid (by omega)
          clear hV hb0 kb0 kb1
          go_enter Try.func3, Try.ntmps3
          go_upto_region 1 with fail
          rw [HV.out]
          clear HV
          go_wp2_with fail
          refine (live_wo _).mono ?_
          try dsimp only
          rintro e U1 ⟨rfl, bU1⟩
          replace KD := Lib.hid (KD.out.below bU1 KD.out.lt)
          replace KO := Lib.hid (KO.out.below bU1 KO.out.lt)
          replace BB := Lib.hid (below3 BB.out bU1)
          clear bU1
          obtain ⟨qD_0, qD_1⟩ := KD.out.c2w
          have lD := KD.out.lt
          obtain ⟨qO_0, qO_1⟩ := KO.out.c2w
          have lO := KO.out.lt
          go_upto_region 6 with fail
          clear qD_0 qD_1 lD qO_0 qO_1 lO
          obtain ⟨qD_0, qD_1⟩ := KD.out.c2w
          have lD := KD.out.lt
          go_wp2_with fail
          refine (copy_wo A B n a m b is st _ (HI.out.below BB.out) (HST.out.below BB.out)).mono ?_
          try dsimp only
          rintro e U2 ⟨Az, az, Bz, bz, he, ow, bU2⟩
          try dsimp only at he ow
          subst he
          clear qD_0 qD_1 lD
          have HBBz : Hid (w.heap.size ≤ U1.heap.size) := Lib.hid BB.out.size
          have Rz := Lib.hid ow
          clear ow
          replace KD := Lib.hid (KD.out.below bU2 KD.out.lt)
          replace KO := Lib.hid (KO.out.below bU2 KO.out.lt)
          replace BB := Lib.hid (below3 BB.out bU2)
          clear bU2
          have kt := Bk.new U2 24 #[.slice Az is.length az, .slice Bz st.length bz]
          have ba := (Below.refl U2.heap.size U2).alloc (Nat.le_refl _) (.cells #[.slice Az is.length az, .slice Bz st.length bz] 24)
          have hgb := BB.out.size
          replace KD := Lib.hid (KD.out.below ba KD.out.lt)
          replace KO := Lib.hid (KO.out.below ba KO.out.lt)
          replace Rz := Lib.hid (Rz.out.below ba)
          replace BB := Lib.hid (below3 BB.out ba)
          clear ba
          obtain ⟨W3, hW⟩ : ∃ W, U2.alloc (.cells #[.slice Az is.length az, .slice Bz st.length bz] 24) = W := ⟨_, rfl⟩
          obtain ⟨gZ, hg⟩ : ∃ g, U2.heap.size = g := ⟨_, rfl⟩
          rw [hW] at kt BB KD KO Rz
          rw [hg] at kt hgb
          have HW := Lib.hid hW
          have HG := Lib.hid hg
          have KZ := Lib.hid kt
          have HBZ := Lib.hid hgb
          clear hW hg kt hgb
          go_upto_region 7 with fail
          rw [HW.out]
          try rw [HG.out]
          clear HW HG
          go_wp2_with fail
          refine (new_wo x _).mono ?_
          rw [HN.out]
          try dsimp only
          rintro e U4 ⟨Aa, aa, Ba, ba, he, ow, bU4⟩
          try dsimp only at he ow
          subst he
          have HBBa : Hid (w.heap.size ≤ W3.heap.size) := Lib.hid BB.out.size
          have Ra := Lib.hid ow
          clear ow
          replace KD := Lib.hid (KD.out.below bU4 KD.out.lt)
          replace KO := Lib.hid (KO.out.below bU4 KO.out.lt)
          replace KZ := Lib.hid (KZ.out.below bU4 KZ.out.lt)
          replace Rz := Lib.hid (Rz.out.below bU4)
          replace BB := Lib.hid (below3 BB.out bU4)
          clear bU4
          have kt := Bk.new U4 24 #[.slice Aa j0.length aa, .slice Ba s0.length ba]
          have ba := (Below.refl U4.heap.size U4).alloc (Nat.le_refl _) (.cells #[.slice Aa j0.length aa, .slice Ba s0.length ba] 24)
          have hgb := BB.out.size
          replace KD := Lib.hid (KD.out.below ba KD.out.lt)
          replace KO := Lib.hid (KO.out.below ba KO.out.lt)
          replace KZ := Lib.hid (KZ.out.below ba KZ.out.lt)
          replace Rz := Lib.hid (Rz.out.below ba)
          replace Ra := Lib.hid (Ra.out.below ba)
          replace BB := Lib.hid (below3 BB.out ba)
          clear ba
          obtain ⟨W5, hW⟩ : ∃ W, U4.alloc (.cells #[.slice Aa j0.length aa, .slice Ba s0.length ba] 24) = W := ⟨_, rfl⟩
          obtain ⟨gA, hg⟩ : ∃ g, U4.heap.size = g := ⟨_, rfl⟩
          rw [hW] at kt BB KD KO KZ Rz Ra
          rw [hg] at kt hgb
          have HW := Lib.hid hW
          have HG := Lib.hid hg
          have KA := Lib.hid kt
          have HBA := Lib.hid hgb
          clear hW hg kt hgb
          go_upto_region 8 with fail
          rw [HW.out]
          try rw [HG.out]
          clear HW HG
          go_wp2_with fail
          refine (rnew_wo x _).mono ?_
          rw [HN.out]
          try dsimp only
          rintro e U6 ⟨Ab, ab, Bb, bb, he, ow, bU6⟩
          try dsimp only at he ow
          subst he
          have HBBb : Hid (w.heap.size ≤ W5.heap.size) := Lib.hid BB.out.size
          have Rb := Lib.hid ow
          clear ow
          replace KD := Lib.hid (KD.out.below bU6 KD.out.lt)
          replace KO := Lib.hid (KO.out.below bU6 KO.out.lt)
          replace KZ := Lib.hid (KZ.out.below bU6 KZ.out.lt)
          replace KA := Lib.hid (KA.out.below bU6 KA.out.lt)
          replace Rz := Lib.hid (Rz.out.below bU6)
          replace Ra := Lib.hid (Ra.out.below bU6)
          replace BB := Lib.hid (below3 BB.out bU6)
          clear bU6
          have kt := Bk.new U6 24 #[.slice Ab j0.length ab, .slice Bb s0.length bb]
          have ba := (Below.refl U6.heap.size U6).alloc (Nat.le_refl _) (.cells #[.slice Ab j0.length ab, .slice Bb s0.length bb] 24)
          have hgb := BB.out.size
          replace KD := Lib.hid (KD.out.below ba KD.out.lt)
          replace KO := Lib.hid (KO.out.below ba KO.out.lt)
          replace KZ := Lib.hid (KZ.out.below ba KZ.out.lt)
          replace KA := Lib.hid (KA.out.below ba KA.out.lt)
          replace Rz := Lib.hid (Rz.out.below ba)
          replace Ra := Lib.hid (Ra.out.below ba)
          replace Rb := Lib.hid (Rb.out.below ba)
          replace BB := Lib.hid (below3 BB.out ba)
          clear ba
          obtain ⟨W7, hW⟩ : ∃ W, U6.alloc (.cells #[.slice Ab j0.length ab, .slice Bb s0.length bb] 24) = W := ⟨_, rfl⟩
          obtain ⟨gB, hg⟩ : ∃ g, U6.heap.size = g := ⟨_, rfl⟩
          rw [hW] at kt BB KD KO KZ KA Rz Ra Rb
          rw [hg] at kt hgb
          have HW := Lib.hid hW
          have HG := Lib.hid hg
          have KB := Lib.hid kt
          have HBB := Lib.hid hgb
          clear hW hg kt hgb
          go_upto_region 9 with fail
          rw [HW.out]
          try rw [HG.out]
          clear HW HG
          obtain ⟨qD_0, qD_1⟩ := KD.out.c2w
          have lD := KD.out.lt
          go_wp2_with fail
          refine (spin_wo A B n a m b is st i _ (HI.out.below BB.out) (HST.out.below BB.out)).mono ?_
          rw [HS.out]
          try dsimp only
          rintro e U8 ⟨Ac, ac, Bc, bc, he, ow, bU8⟩
          try dsimp only at he ow
          subst he
          clear qD_0 qD_1 lD
          have HBBc : Hid (w.heap.size ≤ W7.heap.size) := Lib.hid BB.out.size
          have Rc := Lib.hid ow
          clear ow
          replace KD := Lib.hid (KD.out.below bU8 KD.out.lt)
          replace KO := Lib.hid (KO.out.below bU8 KO.out.lt)
          replace KZ := Lib.hid (KZ.out.below bU8 KZ.out.lt)
          replace KA := Lib.hid (KA.out.below bU8 KA.out.lt)
          replace KB := Lib.hid (KB.out.below bU8 KB.out.lt)
          replace Rz := Lib.hid (Rz.out.below bU8)
          replace Ra := Lib.hid (Ra.out.below bU8)
          replace Rb := Lib.hid (Rb.out.below bU8)
          replace BB := Lib.hid (below3 BB.out bU8)
          clear bU8
          have kt := Bk.new U8 24 #[.slice Ac i1.length ac, .slice Bc s1.length bc]
          have ba := (Below.refl U8.heap.size U8).alloc (Nat.le_refl _) (.cells #[.slice Ac i1.length ac, .slice Bc s1.length bc] 24)
          have hgb := BB.out.size
          replace KD := Lib.hid (KD.out.below ba KD.out.lt)
          replace KO := Lib.hid (KO.out.below ba KO.out.lt)
          replace KZ := Lib.hid (KZ.out.below ba KZ.out.lt)
          replace KA := Lib.hid (KA.out.below ba KA.out.lt)
          replace KB := Lib.hid (KB.out.below ba KB.out.lt)
          replace Rz := Lib.hid (Rz.out.below ba)
          replace Ra := Lib.hid (Ra.out.below ba)
          replace Rb := Lib.hid (Rb.out.below ba)
          replace Rc := Lib.hid (Rc.out.below ba)
          replace BB := Lib.hid (below3 BB.out ba)
          clear ba
          obtain ⟨W9, hW⟩ : ∃ W, U8.alloc (.cells #[.slice Ac i1.length ac, .slice Bc s1.length bc] 24) = W := ⟨_, rfl⟩
          obtain ⟨gC, hg⟩ : ∃ g, U8.heap.size = g := ⟨_, rfl⟩
          rw [hW] at kt BB KD KO KZ KA KB Rz Ra Rb Rc
          rw [hg] at kt hgb
          have HW := Lib.hid hW
          have HG := Lib.hid hg
          have KC := Lib.hid kt
          have HBC := Lib.hid hgb
          clear hW hg kt hgb
          go_upto_region 10 with fail
          rw [HW.out]
          try rw [HG.out]
          clear HW HG
          obtain ⟨qD_0, qD_1⟩ := KD.out.c2w
          have lD := KD.out.lt
          go_wp2_with fail
          refine (rspin_wo A B n a m b is st i _ (HI.out.below BB.out) (HST.out.below BB.out)).mono ?_
          rw [HS.out]
          try dsimp only
          rintro e U10 ⟨Ah, ah, Bh, bh, he, ow, bU10⟩
          try dsimp only at he ow
          subst he
          clear qD_0 qD_1 lD
          have HBBh : Hid (w.heap.size ≤ W9.heap.size) := Lib.hid BB.out.size
          have Rh := Lib.hid ow
          clear ow
          replace KD := Lib.hid (KD.out.below bU10 KD.out.lt)
          replace KO := Lib.hid (KO.out.below bU10 KO.out.lt)
          replace KZ := Lib.hid (KZ.out.below bU10 KZ.out.lt)
          replace KA := Lib.hid (KA.out.below bU10 KA.out.lt)
          replace KB := Lib.hid (KB.out.below bU10 KB.out.lt)
          replace KC := Lib.hid (KC.out.below bU10 KC.out.lt)
          replace Rz := Lib.hid (Rz.out.below bU10)
          replace Ra := Lib.hid (Ra.out.below bU10)
          replace Rb := Lib.hid (Rb.out.below bU10)
          replace Rc := Lib.hid (Rc.out.below bU10)
          replace BB := Lib.hid (below3 BB.out bU10)
          clear bU10
          have kt := Bk.new U10 24 #[.slice Ah i1.length ah, .slice Bh s1.length bh]
          have ba := (Below.refl U10.heap.size U10).alloc (Nat.le_refl _) (.cells #[.slice Ah i1.length ah, .slice Bh s1.length bh] 24)
          have hgb := BB.out.size
          replace KD := Lib.hid (KD.out.below ba KD.out.lt)
          replace KO := Lib.hid (KO.out.below ba KO.out.lt)
          replace KZ := Lib.hid (KZ.out.below ba KZ.out.lt)
          replace KA := Lib.hid (KA.out.below ba KA.out.lt)
          replace KB := Lib.hid (KB.out.below ba KB.out.lt)
          replace KC := Lib.hid (KC.out.below ba KC.out.lt)
          replace Rz := Lib.hid (Rz.out.below ba)
          replace Ra := Lib.hid (Ra.out.below ba)
          replace Rb := Lib.hid (Rb.out.below ba)
          replace Rc := Lib.hid (Rc.out.below ba)
          replace Rh := Lib.hid (Rh.out.below ba)
          replace BB := Lib.hid (below3 BB.out ba)
          clear ba
          obtain ⟨W11, hW⟩ : ∃ W, U10.alloc (.cells #[.slice Ah i1.length ah, .slice Bh s1.length bh] 24) = W := ⟨_, rfl⟩
          obtain ⟨gH, hg⟩ : ∃ g, U10.heap.size = g := ⟨_, rfl⟩
          rw [hW] at kt BB KD KO KZ KA KB KC Rz Ra Rb Rc Rh
          rw [hg] at kt hgb
          have HW := Lib.hid hW
          have HG := Lib.hid hg
          have KH := Lib.hid kt
          have HBH := Lib.hid hgb
          clear hW hg kt hgb
          go_upto_region 11 with fail
          rw [HW.out]
          try rw [HG.out]
          clear HW HG
          obtain ⟨qD_0, qD_1⟩ := KD.out.c2w
          have lD := KD.out.lt
          go_wp2_with fail
          refine (found_wo A B n a m b is st i _ (HI.out.below BB.out) (HST.out.below BB.out)).mono ?_
          rw [HF.out]
          try dsimp only
          rintro e U12 ⟨Af, af, Bf, bf, he, ow, bU12⟩
          try dsimp only at he ow
          subst he
          clear qD_0 qD_1 lD
          have HBBf : Hid (w.heap.size ≤ W11.heap.size) := Lib.hid BB.out.size
          have Rf := Lib.hid ow
          clear ow
          replace KD := Lib.hid (KD.out.below bU12 KD.out.lt)
          replace KO := Lib.hid (KO.out.below bU12 KO.out.lt)
          replace KZ := Lib.hid (KZ.out.below bU12 KZ.out.lt)
          replace KA := Lib.hid (KA.out.below bU12 KA.out.lt)
          replace KB := Lib.hid (KB.out.below bU12 KB.out.lt)
          replace KC := Lib.hid (KC.out.below bU12 KC.out.lt)
          replace KH := Lib.hid (KH.out.below bU12 KH.out.lt)
          replace Rz := Lib.hid (Rz.out.below bU12)
          replace Ra := Lib.hid (Ra.out.below bU12)
          replace Rb := Lib.hid (Rb.out.below bU12)
          replace Rc := Lib.hid (Rc.out.below bU12)
          replace Rh := Lib.hid (Rh.out.below bU12)
          replace BB := Lib.hid (below3 BB.out bU12)
          clear bU12
          have kt := Bk.new U12 24 #[.slice Af i2.length af, .slice Bf s2.length bf]
          have ba := (Below.refl U12.heap.size U12).alloc (Nat.le_refl _) (.cells #[.slice Af i2.length af, .slice Bf s2.length bf] 24)
          have hgb := BB.out.size
          replace KD := Lib.hid (KD.out.below ba KD.out.lt)
          replace KO := Lib.hid (KO.out.below ba KO.out.lt)
          replace KZ := Lib.hid (KZ.out.below ba KZ.out.lt)
          replace KA := Lib.hid (KA.out.below ba KA.out.lt)
          replace KB := Lib.hid (KB.out.below ba KB.out.lt)
          replace KC := Lib.hid (KC.out.below ba KC.out.lt)
          replace KH := Lib.hid (KH.out.below ba KH.out.lt)
          replace Rz := Lib.hid (Rz.out.below ba)
          replace Ra := Lib.hid (Ra.out.below ba)
          replace Rb := Lib.hid (Rb.out.below ba)
          replace Rc := Lib.hid (Rc.out.below ba)
          replace Rh := Lib.hid (Rh.out.below ba)
          replace Rf := Lib.hid (Rf.out.below ba)
          replace BB := Lib.hid (below3 BB.out ba)
          clear ba
          obtain ⟨W13, hW⟩ : ∃ W, U12.alloc (.cells #[.slice Af i2.length af, .slice Bf s2.length bf] 24) = W := ⟨_, rfl⟩
          obtain ⟨gKK, hg⟩ : ∃ g, U12.heap.size = g := ⟨_, rfl⟩
          rw [hW] at kt BB KD KO KZ KA KB KC KH Rz Ra Rb Rc Rh Rf
          rw [hg] at kt hgb
          have HW := Lib.hid hW
          have HG := Lib.hid hg
          have KKK := Lib.hid kt
          have HBKK := Lib.hid hgb
          clear hW hg kt hgb
          go_upto_region 12 with fail
          rw [HW.out]
          try rw [HG.out]
          clear HW HG
          obtain ⟨qD_0, qD_1⟩ := KD.out.c2w
          have lD := KD.out.lt
          go_wp2_with fail
          refine (rfound_wo A B n a m b is st i _ (HI.out.below BB.out) (HST.out.below BB.out)).mono ?_
          rw [HF.out]
          try dsimp only
          rintro e U14 ⟨Ag, ag, Bg, bg, he, ow, bU14⟩
          try dsimp only at he ow
          subst he
          clear qD_0 qD_1 lD
          have HBBg : Hid (w.heap.size ≤ W13.heap.size) := Lib.hid BB.out.size
          have Rg := Lib.hid ow
          clear ow
          replace KD := Lib.hid (KD.out.below bU14 KD.out.lt)
          replace KO := Lib.hid (KO.out.below bU14 KO.out.lt)
          replace KZ := Lib.hid (KZ.out.below bU14 KZ.out.lt)
          replace KA := Lib.hid (KA.out.below bU14 KA.out.lt)
          replace KB := Lib.hid (KB.out.below bU14 KB.out.lt)
          replace KC := Lib.hid (KC.out.below bU14 KC.out.lt)
          replace KH := Lib.hid (KH.out.below bU14 KH.out.lt)
          replace KKK := Lib.hid (KKK.out.below bU14 KKK.out.lt)
          replace Rz := Lib.hid (Rz.out.below bU14)
          replace Ra := Lib.hid (Ra.out.below bU14)
          replace Rb := Lib.hid (Rb.out.below bU14)
          replace Rc := Lib.hid (Rc.out.below bU14)
          replace Rh := Lib.hid (Rh.out.below bU14)
          replace Rf := Lib.hid (Rf.out.below bU14)
          replace BB := Lib.hid (below3 BB.out bU14)
          clear bU14
          have kt := Bk.new U14 24 #[.slice Ag i2.length ag, .slice Bg s2.length bg]
          have ba := (Below.refl U14.heap.size U14).alloc (Nat.le_refl _) (.cells #[.slice Ag i2.length ag, .slice Bg s2.length bg] 24)
          have hgb := BB.out.size
          replace KD := Lib.hid (KD.out.below ba KD.out.lt)
          replace KO := Lib.hid (KO.out.below ba KO.out.lt)
          replace KZ := Lib.hid (KZ.out.below ba KZ.out.lt)
          replace KA := Lib.hid (KA.out.below ba KA.out.lt)
          replace KB := Lib.hid (KB.out.below ba KB.out.lt)
          replace KC := Lib.hid (KC.out.below ba KC.out.lt)
          replace KH := Lib.hid (KH.out.below ba KH.out.lt)
          replace KKK := Lib.hid (KKK.out.below ba KKK.out.lt)
          replace Rz := Lib.hid (Rz.out.below ba)
          replace Ra := Lib.hid (Ra.out.below ba)
          replace Rb := Lib.hid (Rb.out.below ba)
          replace Rc := Lib.hid (Rc.out.below ba)
          replace Rh := Lib.hid (Rh.out.below ba)
          replace Rf := Lib.hid (Rf.out.below ba)
          replace Rg := Lib.hid (Rg.out.below ba)
          replace BB := Lib.hid (below3 BB.out ba)
          clear ba
          obtain ⟨W15, hW⟩ : ∃ W, U14.alloc (.cells #[.slice Ag i2.length ag, .slice Bg s2.length bg] 24) = W := ⟨_, rfl⟩
          obtain ⟨gMM, hg⟩ : ∃ g, U14.heap.size = g := ⟨_, rfl⟩
          rw [hW] at kt BB KD KO KZ KA KB KC KH KKK Rz Ra Rb Rc Rh Rf Rg
          rw [hg] at kt hgb
          have HW := Lib.hid hW
          have HG := Lib.hid hg
          have KMM := Lib.hid kt
          have HBMM := Lib.hid hgb
          clear hW hg kt hgb
          go_upto_region 13 with fail
          rw [HW.out]
          try rw [HG.out]
          clear HW HG
          obtain ⟨qD_0, qD_1⟩ := KD.out.c2w
          have lD := KD.out.lt
          go_wp2_with fail
          have HQz : Hid ((∀ q, blkW Az = some q → q < W15.heap.size) ∧ ∀ q, blkW Bz = some q → q < W15.heap.size) := Lib.hid ⟨fun q e => (Rz.out.i.blkW_lt q e).2, fun q e => (Rz.out.s.blkW_lt q e).2⟩
          refine (ann_wo A B n a m b is st i _ (HI.out.below BB.out) (HST.out.below BB.out)).mono ?_
          rw [HA.out]
          try dsimp only
          rintro e U16 ⟨Ar, ar, Br, br, he, ow, bU16⟩
          try dsimp only at he ow
          subst he
          clear qD_0 qD_1 lD
          have HBBr : Hid (w.heap.size ≤ W15.heap.size) := Lib.hid BB.out.size
          have Rr := Lib.hid ow
          clear ow
          replace KD := Lib.hid (KD.out.below bU16 KD.out.lt)
          replace KO := Lib.hid (KO.out.below bU16 KO.out.lt)
          replace KZ := Lib.hid (KZ.out.below bU16 KZ.out.lt)
          replace KA := Lib.hid (KA.out.below bU16 KA.out.lt)
          replace KB := Lib.hid (KB.out.below bU16 KB.out.lt)
          replace KC := Lib.hid (KC.out.below bU16 KC.out.lt)
          replace KH := Lib.hid (KH.out.below bU16 KH.out.lt)
          replace KKK := Lib.hid (KKK.out.below bU16 KKK.out.lt)
          replace KMM := Lib.hid (KMM.out.below bU16 KMM.out.lt)
          replace Rz := Lib.hid (Rz.out.below bU16)
          replace Ra := Lib.hid (Ra.out.below bU16)
          replace Rb := Lib.hid (Rb.out.below bU16)
          replace Rc := Lib.hid (Rc.out.below bU16)
          replace Rh := Lib.hid (Rh.out.below bU16)
          replace Rf := Lib.hid (Rf.out.below bU16)
          replace Rg := Lib.hid (Rg.out.below bU16)
          replace BB := Lib.hid (below3 BB.out bU16)
          clear bU16
          have kt := Bk.new U16 24 #[.slice Ar i3.length ar, .slice Br s3.length br]
          have ba := (Below.refl U16.heap.size U16).alloc (Nat.le_refl _) (.cells #[.slice Ar i3.length ar, .slice Br s3.length br] 24)
          have hgb := BB.out.size
          replace KD := Lib.hid (KD.out.below ba KD.out.lt)
          replace KO := Lib.hid (KO.out.below ba KO.out.lt)
          replace KZ := Lib.hid (KZ.out.below ba KZ.out.lt)
          replace KA := Lib.hid (KA.out.below ba KA.out.lt)
          replace KB := Lib.hid (KB.out.below ba KB.out.lt)
          replace KC := Lib.hid (KC.out.below ba KC.out.lt)
          replace KH := Lib.hid (KH.out.below ba KH.out.lt)
          replace KKK := Lib.hid (KKK.out.below ba KKK.out.lt)
          replace KMM := Lib.hid (KMM.out.below ba KMM.out.lt)
          replace Rz := Lib.hid (Rz.out.below ba)
          replace Ra := Lib.hid (Ra.out.below ba)
          replace Rb := Lib.hid (Rb.out.below ba)
          replace Rc := Lib.hid (Rc.out.below ba)
          replace Rh := Lib.hid (Rh.out.below ba)
          replace Rf := Lib.hid (Rf.out.below ba)
          replace Rg := Lib.hid (Rg.out.below ba)
          replace Rr := Lib.hid (Rr.out.below ba)
          replace BB := Lib.hid (below3 BB.out ba)
          clear ba
          obtain ⟨W17, hW⟩ : ∃ W, U16.alloc (.cells #[.slice Ar i3.length ar, .slice Br s3.length br] 24) = W := ⟨_, rfl⟩
          obtain ⟨gS, hg⟩ : ∃ g, U16.heap.size = g := ⟨_, rfl⟩
          rw [hW] at kt BB KD KO KZ KA KB KC KH KKK KMM Rz Ra Rb Rc Rh Rf Rg Rr
          rw [hg] at kt hgb
          have HW := Lib.hid hW
          have HG := Lib.hid hg
          have KS := Lib.hid kt
          have HBS := Lib.hid hgb
          clear hW hg kt hgb
          go_upto_region 14 with fail
          rw [HW.out]
          try rw [HG.out]
          clear HW HG
          obtain ⟨qD_0, qD_1⟩ := KD.out.c2w
          have lD := KD.out.lt
          go_wp2_with fail
          refine (rann_wo A B n a m b is st i _ (HI.out.below BB.out) (HST.out.below BB.out)).mono ?_
          rw [HA.out]
          try dsimp only
          rintro e U18 ⟨Au, au, Bu, bu, he, ow, bU18⟩
          try dsimp only at he ow
          subst he
          clear qD_0 qD_1 lD
          have HBBu : Hid (w.heap.size ≤ W17.heap.size) := Lib.hid BB.out.size
          have Ru := Lib.hid ow
          clear ow
          replace KD := Lib.hid (KD.out.below bU18 KD.out.lt)
          replace KO := Lib.hid (KO.out.below bU18 KO.out.lt)
          replace KZ := Lib.hid (KZ.out.below bU18 KZ.out.lt)
          replace KA := Lib.hid (KA.out.below bU18 KA.out.lt)
          replace KB := Lib.hid (KB.out.below bU18 KB.out.lt)
          replace KC := Lib.hid (KC.out.below bU18 KC.out.lt)
          replace KH := Lib.hid (KH.out.below bU18 KH.out.lt)
          replace KKK := Lib.hid (KKK.out.below bU18 KKK.out.lt)
          replace KMM := Lib.hid (KMM.out.below bU18 KMM.out.lt)
          replace KS := Lib.hid (KS.out.below bU18 KS.out.lt)
          replace Rz := Lib.hid (Rz.out.below bU18)
          replace Ra := Lib.hid (Ra.out.below bU18)
          replace Rb := Lib.hid (Rb.out.below bU18)
          replace Rc := Lib.hid (Rc.out.below bU18)
          replace Rh := Lib.hid (Rh.out.below bU18)
          replace Rf := Lib.hid (Rf.out.below bU18)
          replace Rg := Lib.hid (Rg.out.below bU18)
          replace Rr := Lib.hid (Rr.out.below bU18)
          replace BB := Lib.hid (below3 BB.out bU18)
          clear bU18
          have kt := Bk.new U18 24 #[.slice Au i3.length au, .slice Bu s3.length bu]
          have ba := (Below.refl U18.heap.size U18).alloc (Nat.le_refl _) (.cells #[.slice Au i3.length au, .slice Bu s3.length bu] 24)
          have hgb := BB.out.size
          replace KD := Lib.hid (KD.out.below ba KD.out.lt)
          replace KO := Lib.hid (KO.out.below ba KO.out.lt)
          replace KZ := Lib.hid (KZ.out.below ba KZ.out.lt)
          replace KA := Lib.hid (KA.out.below ba KA.out.lt)
          replace KB := Lib.hid (KB.out.below ba KB.out.lt)
          replace KC := Lib.hid (KC.out.below ba KC.out.lt)
          replace KH := Lib.hid (KH.out.below ba KH.out.lt)
          replace KKK := Lib.hid (KKK.out.below ba KKK.out.lt)
          replace KMM := Lib.hid (KMM.out.below ba KMM.out.lt)
          replace KS := Lib.hid (KS.out.below ba KS.out.lt)
          replace Rz := Lib.hid (Rz.out.below ba)
          replace Ra := Lib.hid (Ra.out.below ba)
          replace Rb := Lib.hid (Rb.out.below ba)
          replace Rc := Lib.hid (Rc.out.below ba)
          replace Rh := Lib.hid (Rh.out.below ba)
          replace Rf := Lib.hid (Rf.out.below ba)
          replace Rg := Lib.hid (Rg.out.below ba)
          replace Rr := Lib.hid (Rr.out.below ba)
          replace Ru := Lib.hid (Ru.out.below ba)
          replace BB := Lib.hid (below3 BB.out ba)
          clear ba
          obtain ⟨W19, hW⟩ : ∃ W, U18.alloc (.cells #[.slice Au i3.length au, .slice Bu s3.length bu] 24) = W := ⟨_, rfl⟩
          obtain ⟨gUU, hg⟩ : ∃ g, U18.heap.size = g := ⟨_, rfl⟩
          rw [hW] at kt BB KD KO KZ KA KB KC KH KKK KMM KS Rz Ra Rb Rc Rh Rf Rg Rr Ru
          rw [hg] at kt hgb
          have HW := Lib.hid hW
          have HG := Lib.hid hg
          have KUU := Lib.hid kt
          have HBUU := Lib.hid hgb
          clear hW hg kt hgb
          go_upto_region 15 with fail
          rw [HW.out]
          try rw [HG.out]
          clear HW HG
          obtain ⟨qD_0, qD_1⟩ := KD.out.c2w
          have lD := KD.out.lt
          go_wp2_with fail
          refine (park_wo A B n a m b is st i _ (HI.out.below BB.out) (HST.out.below BB.out)).mono ?_
          rw [HP.out]
          try dsimp only
          rintro e U20 ⟨Aw, aw, Bw, bw, he, ow, bU20⟩
          try dsimp only at he ow
          subst he
          clear qD_0 qD_1 lD
          have HBBw : Hid (w.heap.size ≤ W19.heap.size) := Lib.hid BB.out.size
          have Rw := Lib.hid ow
          clear ow
          replace KD := Lib.hid (KD.out.below bU20 KD.out.lt)
          replace KO := Lib.hid (KO.out.below bU20 KO.out.lt)
          replace KZ := Lib.hid (KZ.out.below bU20 KZ.out.lt)
          replace KA := Lib.hid (KA.out.below bU20 KA.out.lt)
          replace KB := Lib.hid (KB.out.below bU20 KB.out.lt)
          replace KC := Lib.hid (KC.out.below bU20 KC.out.lt)
          replace KH := Lib.hid (KH.out.below bU20 KH.out.lt)
          replace KKK := Lib.hid (KKK.out.below bU20 KKK.out.lt)
          replace KMM := Lib.hid (KMM.out.below bU20 KMM.out.lt)
          replace KS := Lib.hid (KS.out.below bU20 KS.out.lt)
          replace KUU := Lib.hid (KUU.out.below bU20 KUU.out.lt)
          replace Rz := Lib.hid (Rz.out.below bU20)
          replace Ra := Lib.hid (Ra.out.below bU20)
          replace Rb := Lib.hid (Rb.out.below bU20)
          replace Rc := Lib.hid (Rc.out.below bU20)
          replace Rh := Lib.hid (Rh.out.below bU20)
          replace Rf := Lib.hid (Rf.out.below bU20)
          replace Rg := Lib.hid (Rg.out.below bU20)
          replace Rr := Lib.hid (Rr.out.below bU20)
          replace Ru := Lib.hid (Ru.out.below bU20)
          replace BB := Lib.hid (below3 BB.out bU20)
          clear bU20
          have kt := Bk.new U20 24 #[.slice Aw i4.length aw, .slice Bw s4.length bw]
          have ba := (Below.refl U20.heap.size U20).alloc (Nat.le_refl _) (.cells #[.slice Aw i4.length aw, .slice Bw s4.length bw] 24)
          have hgb := BB.out.size
          replace KD := Lib.hid (KD.out.below ba KD.out.lt)
          replace KO := Lib.hid (KO.out.below ba KO.out.lt)
          replace KZ := Lib.hid (KZ.out.below ba KZ.out.lt)
          replace KA := Lib.hid (KA.out.below ba KA.out.lt)
          replace KB := Lib.hid (KB.out.below ba KB.out.lt)
          replace KC := Lib.hid (KC.out.below ba KC.out.lt)
          replace KH := Lib.hid (KH.out.below ba KH.out.lt)
          replace KKK := Lib.hid (KKK.out.below ba KKK.out.lt)
          replace KMM := Lib.hid (KMM.out.below ba KMM.out.lt)
          replace KS := Lib.hid (KS.out.below ba KS.out.lt)
          replace KUU := Lib.hid (KUU.out.below ba KUU.out.lt)
          replace Rz := Lib.hid (Rz.out.below ba)
          replace Ra := Lib.hid (Ra.out.below ba)
          replace Rb := Lib.hid (Rb.out.below ba)
          replace Rc := Lib.hid (Rc.out.below ba)
          replace Rh := Lib.hid (Rh.out.below ba)
          replace Rf := Lib.hid (Rf.out.below ba)
          replace Rg := Lib.hid (Rg.out.below ba)
          replace Rr := Lib.hid (Rr.out.below ba)
          replace Ru := Lib.hid (Ru.out.below ba)
          replace Rw := Lib.hid (Rw.out.below ba)
          replace BB := Lib.hid (below3 BB.out ba)
          clear ba
          obtain ⟨W21, hW⟩ : ∃ W, U20.alloc (.cells #[.slice Aw i4.length aw, .slice Bw s4.length bw] 24) = W := ⟨_, rfl⟩
          obtain ⟨gWW, hg⟩ : ∃ g, U20.heap.size = g := ⟨_, rfl⟩
          rw [hW] at kt BB KD KO KZ KA KB KC KH KKK KMM KS KUU Rz Ra Rb Rc Rh Rf Rg Rr Ru Rw
          rw [hg] at kt hgb
          have HW := Lib.hid hW
          have HG := Lib.hid hg
          have KWW := Lib.hid kt
          have HBWW := Lib.hid hgb
          clear hW hg kt hgb
          go_upto_region 16 with fail
          rw [HW.out]
          try rw [HG.out]
          clear HW HG
          obtain ⟨qD_0, qD_1⟩ := KD.out.c2w
          have lD := KD.out.lt
          go_wp2_with fail
          refine (rpark_wo A B n a m b is st i _ (HI.out.below BB.out) (HST.out.below BB.out)).mono ?_
          rw [HP.out]
          try dsimp only
          rintro e U22 ⟨Ae, ae, Be, be, he, ow, bU22⟩
          try dsimp only at he ow
          subst he
          clear qD_0 qD_1 lD
          have HBBe : Hid (w.heap.size ≤ W21.heap.size) := Lib.hid BB.out.size
          have Re := Lib.hid ow
          clear ow
          replace KD := Lib.hid (KD.out.below bU22 KD.out.lt)
          replace KO := Lib.hid (KO.out.below bU22 KO.out.lt)
          replace KZ := Lib.hid (KZ.out.below bU22 KZ.out.lt)
          replace KA := Lib.hid (KA.out.below bU22 KA.out.lt)
          replace KB := Lib.hid (KB.out.below bU22 KB.out.lt)
          replace KC := Lib.hid (KC.out.below bU22 KC.out.lt)
          replace KH := Lib.hid (KH.out.below bU22 KH.out.lt)
          replace KKK := Lib.hid (KKK.out.below bU22 KKK.out.lt)
          replace KMM := Lib.hid (KMM.out.below bU22 KMM.out.lt)
          replace KS := Lib.hid (KS.out.below bU22 KS.out.lt)
          replace KUU := Lib.hid (KUU.out.below bU22 KUU.out.lt)
          replace KWW := Lib.hid (KWW.out.below bU22 KWW.out.lt)
          replace Rz := Lib.hid (Rz.out.below bU22)
          replace Ra := Lib.hid (Ra.out.below bU22)
          replace Rb := Lib.hid (Rb.out.below bU22)
          replace Rc := Lib.hid (Rc.out.below bU22)
          replace Rh := Lib.hid (Rh.out.below bU22)
          replace Rf := Lib.hid (Rf.out.below bU22)
          replace Rg := Lib.hid (Rg.out.below bU22)
          replace Rr := Lib.hid (Rr.out.below bU22)
          replace Ru := Lib.hid (Ru.out.below bU22)
          replace Rw := Lib.hid (Rw.out.below bU22)
          replace BB := Lib.hid (below3 BB.out bU22)
          clear bU22
          have kt := Bk.new U22 24 #[.slice Ae i4.length ae, .slice Be s4.length be]
          have ba := (Below.refl U22.heap.size U22).alloc (Nat.le_refl _) (.cells #[.slice Ae i4.length ae, .slice Be s4.length be] 24)
          have hgb := BB.out.size
          replace KD := Lib.hid (KD.out.below ba KD.out.lt)
          replace KO := Lib.hid (KO.out.below ba KO.out.lt)
          replace KZ := Lib.hid (KZ.out.below ba KZ.out.lt)
          replace KA := Lib.hid (KA.out.below ba KA.out.lt)
          replace KB := Lib.hid (KB.out.below ba KB.out.lt)
          replace KC := Lib.hid (KC.out.below ba KC.out.lt)
          replace KH := Lib.hid (KH.out.below ba KH.out.lt)
          replace KKK := Lib.hid (KKK.out.below ba KKK.out.lt)
          replace KMM := Lib.hid (KMM.out.below ba KMM.out.lt)
          replace KS := Lib.hid (KS.out.below ba KS.out.lt)
          replace KUU := Lib.hid (KUU.out.below ba KUU.out.lt)
          replace KWW := Lib.hid (KWW.out.below ba KWW.out.lt)
          replace Rz := Lib.hid (Rz.out.below ba)
          replace Ra := Lib.hid (Ra.out.below ba)
          replace Rb := Lib.hid (Rb.out.below ba)
          replace Rc := Lib.hid (Rc.out.below ba)
          replace Rh := Lib.hid (Rh.out.below ba)
          replace Rf := Lib.hid (Rf.out.below ba)
          replace Rg := Lib.hid (Rg.out.below ba)
          replace Rr := Lib.hid (Rr.out.below ba)
          replace Ru := Lib.hid (Ru.out.below ba)
          replace Rw := Lib.hid (Rw.out.below ba)
          replace Re := Lib.hid (Re.out.below ba)
          replace BB := Lib.hid (below3 BB.out ba)
          clear ba
          obtain ⟨W23, hW⟩ : ∃ W, U22.alloc (.cells #[.slice Ae i4.length ae, .slice Be s4.length be] 24) = W := ⟨_, rfl⟩
          obtain ⟨gYY, hg⟩ : ∃ g, U22.heap.size = g := ⟨_, rfl⟩
          rw [hW] at kt BB KD KO KZ KA KB KC KH KKK KMM KS KUU KWW Rz Ra Rb Rc Rh Rf Rg Rr Ru Rw Re
          rw [hg] at kt hgb
          have HW := Lib.hid hW
          have HG := Lib.hid hg
          have KYY := Lib.hid kt
          have HBYY := Lib.hid hgb
          clear hW hg kt hgb
          go_upto_region 17 with fail
          rw [HW.out]
          try rw [HG.out]
          clear HW HG
          obtain ⟨qD_0, qD_1⟩ := KD.out.c2w
          have lD := KD.out.lt
          go_wp2_with fail
          refine (wake_wo A B n a m b is st _ (HI.out.below BB.out) (HST.out.below BB.out)).mono ?_
          rw [HWK.out]
          try dsimp only
          rintro e U24 ⟨Ap, ap, Bp, bp, he, ow, bU24⟩
          try dsimp only at he ow
          subst he
          clear qD_0 qD_1 lD
          have HBBp : Hid (w.heap.size ≤ W23.heap.size) := Lib.hid BB.out.size
          have Rp := Lib.hid ow
          clear ow
          replace KD := Lib.hid (KD.out.below bU24 KD.out.lt)
          replace KO := Lib.hid (KO.out.below bU24 KO.out.lt)
          replace KZ := Lib.hid (KZ.out.below bU24 KZ.out.lt)
          replace KA := Lib.hid (KA.out.below bU24 KA.out.lt)
          replace KB := Lib.hid (KB.out.below bU24 KB.out.lt)
          replace KC := Lib.hid (KC.out.below bU24 KC.out.lt)
          replace KH := Lib.hid (KH.out.below bU24 KH.out.lt)
          replace KKK := Lib.hid (KKK.out.below bU24 KKK.out.lt)
          replace KMM := Lib.hid (KMM.out.below bU24 KMM.out.lt)
          replace KS := Lib.hid (KS.out.below bU24 KS.out.lt)
          replace KUU := Lib.hid (KUU.out.below bU24 KUU.out.lt)
          replace KWW := Lib.hid (KWW.out.below bU24 KWW.out.lt)
          replace KYY := Lib.hid (KYY.out.below bU24 KYY.out.lt)
          replace Rz := Lib.hid (Rz.out.below bU24)
          replace Ra := Lib.hid (Ra.out.below bU24)
          replace Rb := Lib.hid (Rb.out.below bU24)
          replace Rc := Lib.hid (Rc.out.below bU24)
          replace Rh := Lib.hid (Rh.out.below bU24)
          replace Rf := Lib.hid (Rf.out.below bU24)
          replace Rg := Lib.hid (Rg.out.below bU24)
          replace Rr := Lib.hid (Rr.out.below bU24)
          replace Ru := Lib.hid (Ru.out.below bU24)
          replace Rw := Lib.hid (Rw.out.below bU24)
          replace Re := Lib.hid (Re.out.below bU24)
          replace BB := Lib.hid (below3 BB.out bU24)
          clear bU24
          have kt := Bk.new U24 24 #[.slice Ap i5.length ap, .slice Bp s5.length bp]
          have ba := (Below.refl U24.heap.size U24).alloc (Nat.le_refl _) (.cells #[.slice Ap i5.length ap, .slice Bp s5.length bp] 24)
          have hgb := BB.out.size
          replace KD := Lib.hid (KD.out.below ba KD.out.lt)
          replace KO := Lib.hid (KO.out.below ba KO.out.lt)
          replace KZ := Lib.hid (KZ.out.below ba KZ.out.lt)
          replace KA := Lib.hid (KA.out.below ba KA.out.lt)
          replace KB := Lib.hid (KB.out.below ba KB.out.lt)
          replace KC := Lib.hid (KC.out.below ba KC.out.lt)
          replace KH := Lib.hid (KH.out.below ba KH.out.lt)
          replace KKK := Lib.hid (KKK.out.below ba KKK.out.lt)
          replace KMM := Lib.hid (KMM.out.below ba KMM.out.lt)
          replace KS := Lib.hid (KS.out.below ba KS.out.lt)
          replace KUU := Lib.hid (KUU.out.below ba KUU.out.lt)
          replace KWW := Lib.hid (KWW.out.below ba KWW.out.lt)
          replace KYY := Lib.hid (KYY.out.below ba KYY.out.lt)
          replace Rz := Lib.hid (Rz.out.below ba)
          replace Ra := Lib.hid (Ra.out.below ba)
          replace Rb := Lib.hid (Rb.out.below ba)
          replace Rc := Lib.hid (Rc.out.below ba)
          replace Rh := Lib.hid (Rh.out.below ba)
          replace Rf := Lib.hid (Rf.out.below ba)
          replace Rg := Lib.hid (Rg.out.below ba)
          replace Rr := Lib.hid (Rr.out.below ba)
          replace Ru := Lib.hid (Ru.out.below ba)
          replace Rw := Lib.hid (Rw.out.below ba)
          replace Re := Lib.hid (Re.out.below ba)
          replace Rp := Lib.hid (Rp.out.below ba)
          replace BB := Lib.hid (below3 BB.out ba)
          clear ba
          obtain ⟨W25, hW⟩ : ∃ W, U24.alloc (.cells #[.slice Ap i5.length ap, .slice Bp s5.length bp] 24) = W := ⟨_, rfl⟩
          obtain ⟨gP, hg⟩ : ∃ g, U24.heap.size = g := ⟨_, rfl⟩
          rw [hW] at kt BB KD KO KZ KA KB KC KH KKK KMM KS KUU KWW KYY Rz Ra Rb Rc Rh Rf Rg Rr Ru Rw Re Rp
          rw [hg] at kt hgb
          have HW := Lib.hid hW
          have HG := Lib.hid hg
          have KP := Lib.hid kt
          have HBP := Lib.hid hgb
          clear hW hg kt hgb
          go_upto_region 18 with fail
          rw [HW.out]
          try rw [HG.out]
          clear HW HG
          obtain ⟨qD_0, qD_1⟩ := KD.out.c2w
          have lD := KD.out.lt
          go_wp2_with fail
          refine (rwake_wo A B n a m b is st _ (HI.out.below BB.out) (HST.out.below BB.out)).mono ?_
          rw [HWK.out]
          try dsimp only
          rintro e U26 ⟨Aq, aq, Bq, bq, he, ow, bU26⟩
          try dsimp only at he ow
          subst he
          clear qD_0 qD_1 lD
          have HBBq : Hid (w.heap.size ≤ W25.heap.size) := Lib.hid BB.out.size
          have Rq := Lib.hid ow
          clear ow
          replace KD := Lib.hid (KD.out.below bU26 KD.out.lt)
          replace KO := Lib.hid (KO.out.below bU26 KO.out.lt)
          replace KZ := Lib.hid (KZ.out.below bU26 KZ.out.lt)
          replace KA := Lib.hid (KA.out.below bU26 KA.out.lt)
          replace KB := Lib.hid (KB.out.below bU26 KB.out.lt)
          replace KC := Lib.hid (KC.out.below bU26 KC.out.lt)
          replace KH := Lib.hid (KH.out.below bU26 KH.out.lt)
          replace KKK := Lib.hid (KKK.out.below bU26 KKK.out.lt)
          replace KMM := Lib.hid (KMM.out.below bU26 KMM.out.lt)
          replace KS := Lib.hid (KS.out.below bU26 KS.out.lt)
          replace KUU := Lib.hid (KUU.out.below bU26 KUU.out.lt)
          replace KWW := Lib.hid (KWW.out.below bU26 KWW.out.lt)
          replace KYY := Lib.hid (KYY.out.below bU26 KYY.out.lt)
          replace KP := Lib.hid (KP.out.below bU26 KP.out.lt)
          replace Rz := Lib.hid (Rz.out.below bU26)
          replace Ra := Lib.hid (Ra.out.below bU26)
          replace Rb := Lib.hid (Rb.out.below bU26)
          replace Rc := Lib.hid (Rc.out.below bU26)
          replace Rh := Lib.hid (Rh.out.below bU26)
          replace Rf := Lib.hid (Rf.out.below bU26)
          replace Rg := Lib.hid (Rg.out.below bU26)
          replace Rr := Lib.hid (Rr.out.below bU26)
          replace Ru := Lib.hid (Ru.out.below bU26)
          replace Rw := Lib.hid (Rw.out.below bU26)
          replace Re := Lib.hid (Re.out.below bU26)
          replace Rp := Lib.hid (Rp.out.below bU26)
          replace BB := Lib.hid (below3 BB.out bU26)
          clear bU26
          have kt := Bk.new U26 24 #[.slice Aq i5.length aq, .slice Bq s5.length bq]
          have ba := (Below.refl U26.heap.size U26).alloc (Nat.le_refl _) (.cells #[.slice Aq i5.length aq, .slice Bq s5.length bq] 24)
          have hgb := BB.out.size
          replace KD := Lib.hid (KD.out.below ba KD.out.lt)
          replace KO := Lib.hid (KO.out.below ba KO.out.lt)
          replace KZ := Lib.hid (KZ.out.below ba KZ.out.lt)
          replace KA := Lib.hid (KA.out.below ba KA.out.lt)
          replace KB := Lib.hid (KB.out.below ba KB.out.lt)
          replace KC := Lib.hid (KC.out.below ba KC.out.lt)
          replace KH := Lib.hid (KH.out.below ba KH.out.lt)
          replace KKK := Lib.hid (KKK.out.below ba KKK.out.lt)
          replace KMM := Lib.hid (KMM.out.below ba KMM.out.lt)
          replace KS := Lib.hid (KS.out.below ba KS.out.lt)
          replace KUU := Lib.hid (KUU.out.below ba KUU.out.lt)
          replace KWW := Lib.hid (KWW.out.below ba KWW.out.lt)
          replace KYY := Lib.hid (KYY.out.below ba KYY.out.lt)
          replace KP := Lib.hid (KP.out.below ba KP.out.lt)
          replace Rz := Lib.hid (Rz.out.below ba)
          replace Ra := Lib.hid (Ra.out.below ba)
          replace Rb := Lib.hid (Rb.out.below ba)
          replace Rc := Lib.hid (Rc.out.below ba)
          replace Rh := Lib.hid (Rh.out.below ba)
          replace Rf := Lib.hid (Rf.out.below ba)
          replace Rg := Lib.hid (Rg.out.below ba)
          replace Rr := Lib.hid (Rr.out.below ba)
          replace Ru := Lib.hid (Ru.out.below ba)
          replace Rw := Lib.hid (Rw.out.below ba)
          replace Re := Lib.hid (Re.out.below ba)
          replace Rp := Lib.hid (Rp.out.below ba)
          replace Rq := Lib.hid (Rq.out.below ba)
          replace BB := Lib.hid (below3 BB.out ba)
          clear ba
          obtain ⟨W27, hW⟩ : ∃ W, U26.alloc (.cells #[.slice Aq i5.length aq, .slice Bq s5.length bq] 24) = W := ⟨_, rfl⟩
          obtain ⟨gQQ, hg⟩ : ∃ g, U26.heap.size = g := ⟨_, rfl⟩
          rw [hW] at kt BB KD KO KZ KA KB KC KH KKK KMM KS KUU KWW KYY KP Rz Ra Rb Rc Rh Rf Rg Rr Ru Rw Re Rp Rq
          rw [hg] at kt hgb
          have HW := Lib.hid hW
          have HG := Lib.hid hg
          have KQQ := Lib.hid kt
          have HBQQ := Lib.hid hgb
          clear hW hg kt hgb
          go_upto_region 19 with fail
          rw [HW.out]
          try rw [HG.out]
          clear HW HG
          obtain ⟨qD_0, qD_1⟩ := KD.out.c2w
          have lD := KD.out.lt
          go_wp2_with fail
          refine (count_wo A B n a m b is st what _ (HI.out.below BB.out) (HST.out.below BB.out)).mono ?_
          rw [HC.out]
          try dsimp only
          rintro e U28 ⟨rfl, bU28⟩
          clear qD_0 qD_1 lD
          replace KD := Lib.hid (KD.out.below bU28 KD.out.lt)
          replace KO := Lib.hid (KO.out.below bU28 KO.out.lt)
          replace KZ := Lib.hid (KZ.out.below bU28 KZ.out.lt)
          replace KA := Lib.hid (KA.out.below bU28 KA.out.lt)
          replace KB := Lib.hid (KB.out.below bU28 KB.out.lt)
          replace KC := Lib.hid (KC.out.below bU28 KC.out.lt)
          replace KH := Lib.hid (KH.out.below bU28 KH.out.lt)
          replace KKK := Lib.hid (KKK.out.below bU28 KKK.out.lt)
          replace KMM := Lib.hid (KMM.out.below bU28 KMM.out.lt)
          replace KS := Lib.hid (KS.out.below bU28 KS.out.lt)
          replace KUU := Lib.hid (KUU.out.below bU28 KUU.out.lt)
          replace KWW := Lib.hid (KWW.out.below bU28 KWW.out.lt)
          replace KYY := Lib.hid (KYY.out.below bU28 KYY.out.lt)
          replace KP := Lib.hid (KP.out.below bU28 KP.out.lt)
          replace KQQ := Lib.hid (KQQ.out.below bU28 KQQ.out.lt)
          replace Rz := Lib.hid (Rz.out.below bU28)
          replace Ra := Lib.hid (Ra.out.below bU28)
          replace Rb := Lib.hid (Rb.out.below bU28)
          replace Rc := Lib.hid (Rc.out.below bU28)
          replace Rh := Lib.hid (Rh.out.below bU28)
          replace Rf := Lib.hid (Rf.out.below bU28)
          replace Rg := Lib.hid (Rg.out.below bU28)
          replace Rr := Lib.hid (Rr.out.below bU28)
          replace Ru := Lib.hid (Ru.out.below bU28)
          replace Rw := Lib.hid (Rw.out.below bU28)
          replace Re := Lib.hid (Re.out.below bU28)
          replace Rp := Lib.hid (Rp.out.below bU28)
          replace Rq := Lib.hid (Rq.out.below bU28)
          replace BB := Lib.hid (below3 BB.out bU28)
          clear bU28
          obtain ⟨qD_0, qD_1⟩ := KD.out.c2w
          have lD := KD.out.lt
          go_wp2_with fail
          refine (rcount_wo A B n a m b is st what _ (HI.out.below BB.out) (HST.out.below BB.out)).mono ?_
          rw [HC.out]
          try dsimp only
          rintro e U29 ⟨rfl, bU29⟩
          clear qD_0 qD_1 lD
          replace KD := Lib.hid (KD.out.below bU29 KD.out.lt)
          replace KO := Lib.hid (KO.out.below bU29 KO.out.lt)
          replace KZ := Lib.hid (KZ.out.below bU29 KZ.out.lt)
          replace KA := Lib.hid (KA.out.below bU29 KA.out.lt)
          replace KB := Lib.hid (KB.out.below bU29 KB.out.lt)
          replace KC := Lib.hid (KC.out.below bU29 KC.out.lt)
          replace KH := Lib.hid (KH.out.below bU29 KH.out.lt)
          replace KKK := Lib.hid (KKK.out.below bU29 KKK.out.lt)
          replace KMM := Lib.hid (KMM.out.below bU29 KMM.out.lt)
          replace KS := Lib.hid (KS.out.below bU29 KS.out.lt)
          replace KUU := Lib.hid (KUU.out.below bU29 KUU.out.lt)
          replace KWW := Lib.hid (KWW.out.below bU29 KWW.out.lt)
          replace KYY := Lib.hid (KYY.out.below bU29 KYY.out.lt)
          replace KP := Lib.hid (KP.out.below bU29 KP.out.lt)
          replace KQQ := Lib.hid (KQQ.out.below bU29 KQQ.out.lt)
          replace Rz := Lib.hid (Rz.out.below bU29)
          replace Ra := Lib.hid (Ra.out.below bU29)
          replace Rb := Lib.hid (Rb.out.below bU29)
          replace Rc := Lib.hid (Rc.out.below bU29)
          replace Rh := Lib.hid (Rh.out.below bU29)
          replace Rf := Lib.hid (Rf.out.below bU29)
          replace Rg := Lib.hid (Rg.out.below bU29)
          replace Rr := Lib.hid (Rr.out.below bU29)
          replace Ru := Lib.hid (Ru.out.below bU29)
          replace Rw := Lib.hid (Rw.out.below bU29)
          replace Re := Lib.hid (Re.out.below bU29)
          replace Rp := Lib.hid (Rp.out.below bU29)
          replace Rq := Lib.hid (Rq.out.below bU29)
          replace BB := Lib.hid (below3 BB.out bU29)
          clear bU29
          obtain ⟨qA_0, qA_1⟩ := KA.out.c2w
          have lA := KA.out.lt
          obtain ⟨qB_0, qB_1⟩ := KB.out.c2w
          have lB := KB.out.lt
          go_wp2_with fail
          refine (rsame_wo Aa Ba Ab Bb j0.length aa s0.length ba j0.length ab s0.length bb j0 s0 j0 s0 _ Ra.out.i.ints Ra.out.s.ints Rb.out.i.ints Rb.out.s.ints).mono ?_
          rw [sameWo_refl]
          try dsimp only
          rintro e U30 ⟨rfl, bU30⟩
          clear qA_0 qA_1 lA qB_0 qB_1 lB
          replace KD := Lib.hid (KD.out.below bU30 KD.out.lt)
          replace KO := Lib.hid (KO.out.below bU30 KO.out.lt)
          replace KZ := Lib.hid (KZ.out.below bU30 KZ.out.lt)
          replace KA := Lib.hid (KA.out.below bU30 KA.out.lt)
          replace KB := Lib.hid (KB.out.below bU30 KB.out.lt)
          replace KC := Lib.hid (KC.out.below bU30 KC.out.lt)
          replace KH := Lib.hid (KH.out.below bU30 KH.out.lt)
          replace KKK := Lib.hid (KKK.out.below bU30 KKK.out.lt)
          replace KMM := Lib.hid (KMM.out.below bU30 KMM.out.lt)
          replace KS := Lib.hid (KS.out.below bU30 KS.out.lt)
          replace KUU := Lib.hid (KUU.out.below bU30 KUU.out.lt)
          replace KWW := Lib.hid (KWW.out.below bU30 KWW.out.lt)
          replace KYY := Lib.hid (KYY.out.below bU30 KYY.out.lt)
          replace KP := Lib.hid (KP.out.below bU30 KP.out.lt)
          replace KQQ := Lib.hid (KQQ.out.below bU30 KQQ.out.lt)
          replace Rz := Lib.hid (Rz.out.below bU30)
          replace Ra := Lib.hid (Ra.out.below bU30)
          replace Rb := Lib.hid (Rb.out.below bU30)
          replace Rc := Lib.hid (Rc.out.below bU30)
          replace Rh := Lib.hid (Rh.out.below bU30)
          replace Rf := Lib.hid (Rf.out.below bU30)
          replace Rg := Lib.hid (Rg.out.below bU30)
          replace Rr := Lib.hid (Rr.out.below bU30)
          replace Ru := Lib.hid (Ru.out.below bU30)
          replace Rw := Lib.hid (Rw.out.below bU30)
          replace Re := Lib.hid (Re.out.below bU30)
          replace Rp := Lib.hid (Rp.out.below bU30)
          replace Rq := Lib.hid (Rq.out.below bU30)
          replace BB := Lib.hid (below3 BB.out bU30)
          clear bU30
          clear Ra
          clear Rb
          clear KA
          clear KB
          obtain ⟨qC_0, qC_1⟩ := KC.out.c2w
          have lC := KC.out.lt
          obtain ⟨qH_0, qH_1⟩ := KH.out.c2w
          have lH := KH.out.lt
          go_wp2_with fail
          refine (rsame_wo Ac Bc Ah Bh i1.length ac s1.length bc i1.length ah s1.length bh i1 s1 i1 s1 _ Rc.out.i.ints Rc.out.s.ints Rh.out.i.ints Rh.out.s.ints).mono ?_
          rw [sameWo_refl]
          try dsimp only
          rintro e U31 ⟨rfl, bU31⟩
          clear qC_0 qC_1 lC qH_0 qH_1 lH
          replace KD := Lib.hid (KD.out.below bU31 KD.out.lt)
          replace KO := Lib.hid (KO.out.below bU31 KO.out.lt)
          replace KZ := Lib.hid (KZ.out.below bU31 KZ.out.lt)
          replace KC := Lib.hid (KC.out.below bU31 KC.out.lt)
          replace KH := Lib.hid (KH.out.below bU31 KH.out.lt)
          replace KKK := Lib.hid (KKK.out.below bU31 KKK.out.lt)
          replace KMM := Lib.hid (KMM.out.below bU31 KMM.out.lt)
          replace KS := Lib.hid (KS.out.below bU31 KS.out.lt)
          replace KUU := Lib.hid (KUU.out.below bU31 KUU.out.lt)
          replace KWW := Lib.hid (KWW.out.below bU31 KWW.out.lt)
          replace KYY := Lib.hid (KYY.out.below bU31 KYY.out.lt)
          replace KP := Lib.hid (KP.out.below bU31 KP.out.lt)
          replace KQQ := Lib.hid (KQQ.out.below bU31 KQQ.out.lt)
          replace Rz := Lib.hid (Rz.out.below bU31)
          replace Rc := Lib.hid (Rc.out.below bU31)
          replace Rh := Lib.hid (Rh.out.below bU31)
          replace Rf := Lib.hid (Rf.out.below bU31)
          replace Rg := Lib.hid (Rg.out.below bU31)
          replace Rr := Lib.hid (Rr.out.below bU31)
          replace Ru := Lib.hid (Ru.out.below bU31)
          replace Rw := Lib.hid (Rw.out.below bU31)
          replace Re := Lib.hid (Re.out.below bU31)
          replace Rp := Lib.hid (Rp.out.below bU31)
          replace Rq := Lib.hid (Rq.out.below bU31)
          replace BB := Lib.hid (below3 BB.out bU31)
          clear bU31
          clear Rc
          clear Rh
          clear KC
          clear KH
          obtain ⟨qKK_0, qKK_1⟩ := KKK.out.c2w
          have lKK := KKK.out.lt
          obtain ⟨qMM_0, qMM_1⟩ := KMM.out.c2w
          have lMM := KMM.out.lt
          go_wp2_with fail
          refine (rsame_wo Af Bf Ag Bg i2.length af s2.length bf i2.length ag s2.length bg i2 s2 i2 s2 _ Rf.out.i.ints Rf.out.s.ints Rg.out.i.ints Rg.out.s.ints).mono ?_
          rw [sameWo_refl]
          try dsimp only
          rintro e U32 ⟨rfl, bU32⟩
          clear qKK_0 qKK_1 lKK qMM_0 qMM_1 lMM
          replace KD := Lib.hid (KD.out.below bU32 KD.out.lt)
          replace KO := Lib.hid (KO.out.below bU32 KO.out.lt)
          replace KZ := Lib.hid (KZ.out.below bU32 KZ.out.lt)
          replace KKK := Lib.hid (KKK.out.below bU32 KKK.out.lt)
          replace KMM := Lib.hid (KMM.out.below bU32 KMM.out.lt)
          replace KS := Lib.hid (KS.out.below bU32 KS.out.lt)
          replace KUU := Lib.hid (KUU.out.below bU32 KUU.out.lt)
          replace KWW := Lib.hid (KWW.out.below bU32 KWW.out.lt)
          replace KYY := Lib.hid (KYY.out.below bU32 KYY.out.lt)
          replace KP := Lib.hid (KP.out.below bU32 KP.out.lt)
          replace KQQ := Lib.hid (KQQ.out.below bU32 KQQ.out.lt)
          replace Rz := Lib.hid (Rz.out.below bU32)
          replace Rf := Lib.hid (Rf.out.below bU32)
          replace Rg := Lib.hid (Rg.out.below bU32)
          replace Rr := Lib.hid (Rr.out.below bU32)
          replace Ru := Lib.hid (Ru.out.below bU32)
          replace Rw := Lib.hid (Rw.out.below bU32)
          replace Re := Lib.hid (Re.out.below bU32)
          replace Rp := Lib.hid (Rp.out.below bU32)
          replace Rq := Lib.hid (Rq.out.below bU32)
          replace BB := Lib.hid (below3 BB.out bU32)
          clear bU32
          clear Rf
          clear Rg
          clear KKK
          clear KMM
          obtain ⟨qS_0, qS_1⟩ := KS.out.c2w
          have lS := KS.out.lt
          obtain ⟨qUU_0, qUU_1⟩ := KUU.out.c2w
          have lUU := KUU.out.lt
          go_wp2_with fail
          refine (rsame_wo Ar Br Au Bu i3.length ar s3.length br i3.length au s3.length bu i3 s3 i3 s3 _ Rr.out.i.ints Rr.out.s.ints Ru.out.i.ints Ru.out.s.ints).mono ?_
          rw [sameWo_refl]
          try dsimp only
          rintro e U33 ⟨rfl, bU33⟩
          clear qS_0 qS_1 lS qUU_0 qUU_1 lUU
          replace KD := Lib.hid (KD.out.below bU33 KD.out.lt)
          replace KO := Lib.hid (KO.out.below bU33 KO.out.lt)
          replace KZ := Lib.hid (KZ.out.below bU33 KZ.out.lt)
          replace KS := Lib.hid (KS.out.below bU33 KS.out.lt)
          replace KUU := Lib.hid (KUU.out.below bU33 KUU.out.lt)
          replace KWW := Lib.hid (KWW.out.below bU33 KWW.out.lt)
          replace KYY := Lib.hid (KYY.out.below bU33 KYY.out.lt)
          replace KP := Lib.hid (KP.out.below bU33 KP.out.lt)
          replace KQQ := Lib.hid (KQQ.out.below bU33 KQQ.out.lt)
          replace Rz := Lib.hid (Rz.out.below bU33)
          replace Rr := Lib.hid (Rr.out.below bU33)
          replace Ru := Lib.hid (Ru.out.below bU33)
          replace Rw := Lib.hid (Rw.out.below bU33)
          replace Re := Lib.hid (Re.out.below bU33)
          replace Rp := Lib.hid (Rp.out.below bU33)
          replace Rq := Lib.hid (Rq.out.below bU33)
          replace BB := Lib.hid (below3 BB.out bU33)
          clear bU33
          clear Ru
          clear KUU
          obtain ⟨qWW_0, qWW_1⟩ := KWW.out.c2w
          have lWW := KWW.out.lt
          obtain ⟨qYY_0, qYY_1⟩ := KYY.out.c2w
          have lYY := KYY.out.lt
          go_wp2_with fail
          refine (rsame_wo Aw Bw Ae Be i4.length aw s4.length bw i4.length ae s4.length be i4 s4 i4 s4 _ Rw.out.i.ints Rw.out.s.ints Re.out.i.ints Re.out.s.ints).mono ?_
          rw [sameWo_refl]
          try dsimp only
          rintro e U34 ⟨rfl, bU34⟩
          clear qWW_0 qWW_1 lWW qYY_0 qYY_1 lYY
          replace KD := Lib.hid (KD.out.below bU34 KD.out.lt)
          replace KO := Lib.hid (KO.out.below bU34 KO.out.lt)
          replace KZ := Lib.hid (KZ.out.below bU34 KZ.out.lt)
          replace KS := Lib.hid (KS.out.below bU34 KS.out.lt)
          replace KWW := Lib.hid (KWW.out.below bU34 KWW.out.lt)
          replace KYY := Lib.hid (KYY.out.below bU34 KYY.out.lt)
          replace KP := Lib.hid (KP.out.below bU34 KP.out.lt)
          replace KQQ := Lib.hid (KQQ.out.below bU34 KQQ.out.lt)
          replace Rz := Lib.hid (Rz.out.below bU34)
          replace Rr := Lib.hid (Rr.out.below bU34)
          replace Rw := Lib.hid (Rw.out.below bU34)
          replace Re := Lib.hid (Re.out.below bU34)
          replace Rp := Lib.hid (Rp.out.below bU34)
          replace Rq := Lib.hid (Rq.out.below bU34)
          replace BB := Lib.hid (below3 BB.out bU34)
          clear bU34
          clear Rw
          clear Re
          clear KWW
          clear KYY
          obtain ⟨qP_0, qP_1⟩ := KP.out.c2w
          have lP := KP.out.lt
          obtain ⟨qQQ_0, qQQ_1⟩ := KQQ.out.c2w
          have lQQ := KQQ.out.lt
          go_wp2_with fail
          refine (rsame_wo Ap Bp Aq Bq i5.length ap s5.length bp i5.length aq s5.length bq i5 s5 i5 s5 _ Rp.out.i.ints Rp.out.s.ints Rq.out.i.ints Rq.out.s.ints).mono ?_
          rw [sameWo_refl]
          try dsimp only
          rintro e U35 ⟨rfl, bU35⟩
          clear qP_0 qP_1 lP qQQ_0 qQQ_1 lQQ
          replace KD := Lib.hid (KD.out.below bU35 KD.out.lt)
          replace KO := Lib.hid (KO.out.below bU35 KO.out.lt)
          replace KZ := Lib.hid (KZ.out.below bU35 KZ.out.lt)
          replace KS := Lib.hid (KS.out.below bU35 KS.out.lt)
          replace KP := Lib.hid (KP.out.below bU35 KP.out.lt)
          replace KQQ := Lib.hid (KQQ.out.below bU35 KQQ.out.lt)
          replace Rz := Lib.hid (Rz.out.below bU35)
          replace Rr := Lib.hid (Rr.out.below bU35)
          replace Rp := Lib.hid (Rp.out.below bU35)
          replace Rq := Lib.hid (Rq.out.below bU35)
          replace BB := Lib.hid (below3 BB.out bU35)
          clear bU35
          clear Rp
          clear Rq
          clear KP
          clear KQQ
          go_upto_region 22 with fail
          obtain ⟨qS_0, qS_1⟩ := KS.out.c2w
          have lS := KS.out.lt
          go_wp2_with fail
          clear qS_0 qS_1 lS
          have HQZ : Hid ((∀ q, blkW Az = some q → q < W15.heap.size) ∧ ∀ q, blkW Bz = some q → q < W15.heap.size) := HQz
          go_loopw [240] (fun t wr => ∃ (kk : Nat) (lx : List Int), kk ≤ i3.length ∧ t = .int .i64 kk ∧ Hid (OwnI 3 wr W15.heap.size Ar ar lx ∧ lx.length = i3.length ∧ OwnW wr U1.heap.size Az az Bz bz is st ∧ Below w.heap.size w wr) ∧ Hid (Bk wr w.heap.size 24 #[.slice A n a, .slice B m b] ∧ Bk wr (w.heap.size + 1) 24 #[.slice C k c, .slice D l d] ∧ Bk wr gZ 24 #[.slice Az is.length az, .slice Bz st.length bz] ∧ Bk wr gS 24 #[.slice Ar i3.length ar, .slice Br s3.length br])) (fun t _ => i3.length - (intOf t).toNat)
          case atStart => exact ⟨0, i3, Nat.zero_le _, rfl, Lib.hid ⟨Rr.out.i, rfl, Rz.out, BB.out⟩, Lib.hid ⟨KD.out, KO.out, KZ.out, KS.out⟩⟩
          case round =>
            clear Rz Rr KD KO KZ KS BB
            rename World => wr
            obtain ⟨kk, l1, hk, rfl, OK, BK⟩ := hrel
            by_cases hkn : kk < i3.length
            · have hi3 : i3.length ≤ 9223372036854775807 := by have := OK.out.1.cap; have := OK.out.2.1; omega
              obtain ⟨gs, rfl, hgb, hgl, -, -⟩ := OK.out.1.form (by have := OK.out.2.1; omega)
              obtain ⟨c0, f0⟩ := OK.out.1.at_ (j := kk) (by have := OK.out.2.1; omega)
              obtain ⟨z, hz⟩ : ∃ z, nth l1 kk = z := ⟨_, rfl⟩
              rw [hz] at c0
              obtain ⟨y, hy⟩ : ∃ y, IntKind.i64.wrap (z + 1) = y := ⟨_, rfl⟩
              have fy : Fit y := by rw [← hy, IntKind.wrap_i64]; unfold Fit; omega
              have nD : w.heap.size ≠ gs := fun e => OK.out.1.neBk BK.out.1 (by decide) (by rw [e]; rfl)
              have nO : (w.heap.size + 1) ≠ gs := fun e => OK.out.1.neBk BK.out.2.1 (by decide) (by rw [e]; rfl)
              have nZ : gZ ≠ gs := fun e => OK.out.1.neBk BK.out.2.2.1 (by decide) (by rw [e]; rfl)
              have nS : gS ≠ gs := fun e => OK.out.1.neBk BK.out.2.2.2 (by decide) (by rw [e]; rfl)
              have BK2 : Hid (Bk (wr.setCell ⟨gs, kk, none⟩ (.int .i64 y)) w.heap.size 24 #[.slice A n a, .slice B m b] ∧ Bk (wr.setCell ⟨gs, kk, none⟩ (.int .i64 y)) (w.heap.size + 1) 24 #[.slice C k c, .slice D l d] ∧ Bk (wr.setCell ⟨gs, kk, none⟩ (.int .i64 y)) gZ 24 #[.slice Az is.length az, .slice Bz st.length bz] ∧ Bk (wr.setCell ⟨gs, kk, none⟩ (.int .i64 y)) gS 24 #[.slice (some ⟨gs, 0, none⟩) i3.length ar, .slice Br s3.length br]) := Lib.hid ⟨BK.out.1.far (p := ⟨gs, kk, none⟩) nD _, BK.out.2.1.far (p := ⟨gs, kk, none⟩) nO _, BK.out.2.2.1.far (p := ⟨gs, kk, none⟩) nZ _, BK.out.2.2.2.far (p := ⟨gs, kk, none⟩) nS _⟩
              have OK2 : Hid (OwnI 3 (wr.setCell ⟨gs, kk, none⟩ (.int .i64 y)) W15.heap.size (some ⟨gs, 0, none⟩) ar (l1.set kk y) ∧ (l1.set kk y).length = i3.length ∧ OwnW (wr.setCell ⟨gs, kk, none⟩ (.int .i64 y)) U1.heap.size Az az Bz bz is st ∧ Below w.heap.size w (wr.setCell ⟨gs, kk, none⟩ (.int .i64 y))) := Lib.hid ⟨OK.out.1.set_ kk fy, by rw [List.length_set]; exact OK.out.2.1, OK.out.2.2.1.after (fun q e => by have := HQZ.out.1 q e; omega) (fun q e => by have := HQZ.out.2 q e; omega) _, OK.out.2.2.2.setCell (p := ⟨gs, kk, none⟩) (by have := HBBr.out; show w.heap.size ≤ gs; omega) _⟩
              obtain ⟨q0, q1⟩ := BK.out.2.2.2.c2w
              have lq := BK.out.2.2.2.lt
              clear nD nO nZ nS hz OK BK fy hgb
              go_wp2_with fail
              go_roundw
              case rel => exact ⟨kk + 1, l1.set kk y, by omega, by go_num, OK2, BK2⟩
              case measure => simp [intOf]; omega
            · have KD := Lib.hid BK.out.1
              have KO := Lib.hid BK.out.2.1
              have KZ := Lib.hid BK.out.2.2.1
              have Rz := Lib.hid OK.out.2.2.1
              have BB := Lib.hid OK.out.2.2.2
              clear OK BK
              obtain ⟨qD_0, qD_1⟩ := KD.out.c2w
              have lD := KD.out.lt
              obtain ⟨qO_0, qO_1⟩ := KO.out.c2w
              have lO := KO.out.lt
              obtain ⟨qZ_0, qZ_1⟩ := KZ.out.c2w
              have lZ := KZ.out.lt
              go_upto_region 27 with fail
              have HCK := Lib.hid fun U (hU : Below wr.heap.size wr U) => check_wo A B n a m b is st U (HI.out.below (below3 BB.out hU)) (HST.out.below (below3 BB.out hU))
              have HRK := Lib.hid fun U (hU : Below wr.heap.size wr U) => rcheck_wo A B n a m b is st U (HI.out.below (below3 BB.out hU)) (HST.out.below (below3 BB.out hU))
              have HSM := Lib.hid fun U (hU : Below wr.heap.size wr U) => same_wo A B C D n a m b k c l d is st it su U (HI.out.below (below3 BB.out hU)) (HST.out.below (below3 BB.out hU)) (HJ.out.below (below3 BB.out hU)) (HT.out.below (below3 BB.out hU))
              have HRS := Lib.hid fun U (hU : Below wr.heap.size wr U) => rsame_wo A B C D n a m b k c l d is st it su U (HI.out.below (below3 BB.out hU)) (HST.out.below (below3 BB.out hU)) (HJ.out.below (below3 BB.out hU)) (HT.out.below (below3 BB.out hU))
              have HRZ := Lib.hid fun U (hU : Below wr.heap.size wr U) => rsame_wo A B Az Bz n a m b is.length az st.length bz is st is st U (HI.out.below (below3 BB.out hU)) (HST.out.below (below3 BB.out hU)) (Rz.out.i.ints.below hU) (Rz.out.s.ints.below hU)
              refine calm_region (S := fun U => Below wr.heap.size wr U) (by kernel_rfl) (Below.refl _ _).drew ?_
              refine calm_to (i := 0) (t := 251) (v := .bool true) rfl rfl (by kernel_rfl) (by kernel_rfl) (by kernel_rfl) (fun _ _ _ h => h) (calm_move (by kernel_rfl) (.tmp 11) (.inl rfl) rfl) ?_
              simp only [List.setIfInBounds_toArray, List.set_cons_zero, List.set_cons_succ]
              refine calm_to (i := 1) (t := 252) (v := .bool true) rfl rfl (by kernel_rfl) (by kernel_rfl) (by kernel_rfl) (fun _ _ _ h => h) (calm_move (by kernel_rfl) (.tmp 251) (.inl rfl) rfl) ?_
              simp only [List.setIfInBounds_toArray, List.set_cons_zero, List.set_cons_succ]
              refine calm_to (i := 2) (t := 253) (v := .bool true) rfl rfl (by kernel_rfl) (by kernel_rfl) (by kernel_rfl) (fun _ _ _ h => h) (calm_move (by kernel_rfl) (.tmp 45) (.inl rfl) rfl) ?_
              simp only [List.setIfInBounds_toArray, List.set_cons_zero, List.set_cons_succ]
              refine calm_to (i := 3) (t := 254) (v := .bool true) rfl rfl (by kernel_rfl) (by kernel_rfl) (by kernel_rfl) (fun _ _ _ h => h) (calm_pick (by kernel_rfl) (.tmp 252) (.tmp 253) (.const (.bool false)) rfl true rfl rfl) ?_
              simp only [List.setIfInBounds_toArray, List.set_cons_zero, List.set_cons_succ]
              refine calm_to (i := 4) (t := 255) (v := .bool true) rfl rfl (by kernel_rfl) (by kernel_rfl) (by kernel_rfl) (fun _ _ _ h => h) (calm_move (by kernel_rfl) (.tmp 254) (.inl rfl) rfl) ?_
              simp only [List.setIfInBounds_toArray, List.set_cons_zero, List.set_cons_succ]
              refine calm_to (i := 5) (t := 256) (v := .agg #[.slice A n a, .slice B m b]) rfl rfl (by kernel_rfl) (by kernel_rfl) (by kernel_rfl) (fun _ _ _ h => h) (calm_of (by kernel_rfl) (fun U hU => by have e0 := (hU.cell (p := ⟨w.heap.size, 0, none⟩) lD).trans qD_0; have e1 := (hU.cell (p := ⟨w.heap.size, 1, none⟩) lD).trans qD_1; have el := Nat.lt_of_lt_of_le lD hU.size; go_simp)) ?_
              simp only [List.setIfInBounds_toArray, List.set_cons_zero, List.set_cons_succ]
              refine calm_to (i := 6) (t := 257) (v := .int .i64 ck) rfl rfl (by kernel_rfl) (by kernel_rfl) (by kernel_rfl) (fun _ _ _ h => h) (calm_call1 (by kernel_rfl) 24 (.tmp 256) #[24] rfl (enters_of Try.func24 (by kernel_rfl) rfl) (.agg #[.slice A n a, .slice B m b]) rfl (fun U hU => (HCK.out U hU).mono fun _ _ q => ⟨by rw [q.1, HK.out], below3 hU q.2⟩)) ?_
              simp only [List.setIfInBounds_toArray, List.set_cons_zero, List.set_cons_succ]
              refine calm_to (i := 7) (t := 258) (v := .agg #[.slice A n a, .slice B m b]) rfl rfl (by kernel_rfl) (by kernel_rfl) (by kernel_rfl) (fun _ _ _ h => h) (calm_of (by kernel_rfl) (fun U hU => by have e0 := (hU.cell (p := ⟨w.heap.size, 0, none⟩) lD).trans qD_0; have e1 := (hU.cell (p := ⟨w.heap.size, 1, none⟩) lD).trans qD_1; have el := Nat.lt_of_lt_of_le lD hU.size; go_simp)) ?_
              simp only [List.setIfInBounds_toArray, List.set_cons_zero, List.set_cons_succ]
              refine calm_to (i := 8) (t := 259) (v := .int .i64 ck) rfl rfl (by kernel_rfl) (by kernel_rfl) (by kernel_rfl) (fun _ _ _ h => h) (calm_call1 (by kernel_rfl) 25 (.tmp 258) #[24] rfl (enters_of Try.func25 (by kernel_rfl) rfl) (.agg #[.slice A n a, .slice B m b]) rfl (fun U hU => (HRK.out U hU).mono fun _ _ q => ⟨by rw [q.1, HK.out], below3 hU q.2⟩)) ?_
              simp only [List.setIfInBounds_toArray, List.set_cons_zero, List.set_cons_succ]
              refine calm_to (i := 9) (t := 260) (v := .bool true) rfl rfl (by kernel_rfl) (by kernel_rfl) (by kernel_rfl) (fun _ _ _ h => h) (calm_of (by kernel_rfl) (fun U hU => by go_simp)) ?_
              simp only [List.setIfInBounds_toArray, List.set_cons_zero, List.set_cons_succ]
              refine calm_to (i := 10) (t := 261) (v := .bool true) rfl rfl (by kernel_rfl) (by kernel_rfl) (by kernel_rfl) (fun _ _ _ h => h) (calm_pick (by kernel_rfl) (.tmp 255) (.tmp 260) (.const (.bool false)) rfl true rfl rfl) ?_
              simp only [List.setIfInBounds_toArray, List.set_cons_zero, List.set_cons_succ]
              refine calm_to (i := 11) (t := 262) (v := .bool true) rfl rfl (by kernel_rfl) (by kernel_rfl) (by kernel_rfl) (fun _ _ _ h => h) (calm_move (by kernel_rfl) (.tmp 261) (.inl rfl) rfl) ?_
              simp only [List.setIfInBounds_toArray, List.set_cons_zero, List.set_cons_succ]
              refine calm_to (i := 12) (t := 263) (v := .agg #[.slice A n a, .slice B m b]) rfl rfl (by kernel_rfl) (by kernel_rfl) (by kernel_rfl) (fun _ _ _ h => h) (calm_of (by kernel_rfl) (fun U hU => by have e0 := (hU.cell (p := ⟨w.heap.size, 0, none⟩) lD).trans qD_0; have e1 := (hU.cell (p := ⟨w.heap.size, 1, none⟩) lD).trans qD_1; have el := Nat.lt_of_lt_of_le lD hU.size; go_simp)) ?_
              simp only [List.setIfInBounds_toArray, List.set_cons_zero, List.set_cons_succ]
              refine calm_to (i := 13) (t := 264) (v := .agg #[.slice C k c, .slice D l d]) rfl rfl (by kernel_rfl) (by kernel_rfl) (by kernel_rfl) (fun _ _ _ h => h) (calm_of (by kernel_rfl) (fun U hU => by have e0 := (hU.cell (p := ⟨(w.heap.size + 1), 0, none⟩) lO).trans qO_0; have e1 := (hU.cell (p := ⟨(w.heap.size + 1), 1, none⟩) lO).trans qO_1; have el := Nat.lt_of_lt_of_le lO hU.size; go_simp)) ?_
              simp only [List.setIfInBounds_toArray, List.set_cons_zero, List.set_cons_succ]
              refine calm_to (i := 14) (t := 265) (v := .bool sm) rfl rfl (by kernel_rfl) (by kernel_rfl) (by kernel_rfl) (fun _ _ _ h => h) (calm_call2 (by kernel_rfl) 26 (.tmp 263) (.tmp 264) #[24, 24] rfl (enters_of Try.func26 (by kernel_rfl) rfl) (.agg #[.slice A n a, .slice B m b]) (.agg #[.slice C k c, .slice D l d]) rfl rfl (fun U hU => (HSM.out U hU).mono fun _ _ q => ⟨by rw [q.1, HM.out], below3 hU q.2⟩)) ?_
              simp only [List.setIfInBounds_toArray, List.set_cons_zero, List.set_cons_succ]
              refine calm_to (i := 15) (t := 266) (v := .agg #[.slice A n a, .slice B m b]) rfl rfl (by kernel_rfl) (by kernel_rfl) (by kernel_rfl) (fun _ _ _ h => h) (calm_of (by kernel_rfl) (fun U hU => by have e0 := (hU.cell (p := ⟨w.heap.size, 0, none⟩) lD).trans qD_0; have e1 := (hU.cell (p := ⟨w.heap.size, 1, none⟩) lD).trans qD_1; have el := Nat.lt_of_lt_of_le lD hU.size; go_simp)) ?_
              simp only [List.setIfInBounds_toArray, List.set_cons_zero, List.set_cons_succ]
              refine calm_to (i := 16) (t := 267) (v := .agg #[.slice C k c, .slice D l d]) rfl rfl (by kernel_rfl) (by kernel_rfl) (by kernel_rfl) (fun _ _ _ h => h) (calm_of (by kernel_rfl) (fun U hU => by have e0 := (hU.cell (p := ⟨(w.heap.size + 1), 0, none⟩) lO).trans qO_0; have e1 := (hU.cell (p := ⟨(w.heap.size + 1), 1, none⟩) lO).trans qO_1; have el := Nat.lt_of_lt_of_le lO hU.size; go_simp)) ?_
              simp only [List.setIfInBounds_toArray, List.set_cons_zero, List.set_cons_succ]
              refine calm_to (i := 17) (t := 268) (v := .bool sm) rfl rfl (by kernel_rfl) (by kernel_rfl) (by kernel_rfl) (fun _ _ _ h => h) (calm_call2 (by kernel_rfl) 23 (.tmp 266) (.tmp 267) #[24, 24] rfl (enters_of Try.func23 (by kernel_rfl) rfl) (.agg #[.slice A n a, .slice B m b]) (.agg #[.slice C k c, .slice D l d]) rfl rfl (fun U hU => (HRS.out U hU).mono fun _ _ q => ⟨by rw [q.1, HM.out], below3 hU q.2⟩)) ?_
              simp only [List.setIfInBounds_toArray, List.set_cons_zero, List.set_cons_succ]
              refine calm_to (i := 18) (t := 269) (v := .bool true) rfl rfl (by kernel_rfl) (by kernel_rfl) (by kernel_rfl) (fun _ _ _ h => h) (calm_of (by kernel_rfl) (fun U hU => by go_simp)) ?_
              simp only [List.setIfInBounds_toArray, List.set_cons_zero, List.set_cons_succ]
              refine calm_to (i := 19) (t := 270) (v := .bool true) rfl rfl (by kernel_rfl) (by kernel_rfl) (by kernel_rfl) (fun _ _ _ h => h) (calm_pick (by kernel_rfl) (.tmp 262) (.tmp 269) (.const (.bool false)) rfl true rfl rfl) ?_
              simp only [List.setIfInBounds_toArray, List.set_cons_zero, List.set_cons_succ]
              refine calm_to (i := 20) (t := 271) (v := .bool true) rfl rfl (by kernel_rfl) (by kernel_rfl) (by kernel_rfl) (fun _ _ _ h => h) (calm_move (by kernel_rfl) (.tmp 270) (.inl rfl) rfl) ?_
              simp only [List.setIfInBounds_toArray, List.set_cons_zero, List.set_cons_succ]
              refine calm_to (i := 21) (t := 272) (v := .agg #[.slice A n a, .slice B m b]) rfl rfl (by kernel_rfl) (by kernel_rfl) (by kernel_rfl) (fun _ _ _ h => h) (calm_of (by kernel_rfl) (fun U hU => by have e0 := (hU.cell (p := ⟨w.heap.size, 0, none⟩) lD).trans qD_0; have e1 := (hU.cell (p := ⟨w.heap.size, 1, none⟩) lD).trans qD_1; have el := Nat.lt_of_lt_of_le lD hU.size; go_simp)) ?_
              simp only [List.setIfInBounds_toArray, List.set_cons_zero, List.set_cons_succ]
              refine calm_to (i := 22) (t := 273) (v := .agg #[.slice Az is.length az, .slice Bz st.length bz]) rfl rfl (by kernel_rfl) (by kernel_rfl) (by kernel_rfl) (fun _ _ _ h => h) (calm_of (by kernel_rfl) (fun U hU => by have e0 := (hU.cell (p := ⟨gZ, 0, none⟩) lZ).trans qZ_0; have e1 := (hU.cell (p := ⟨gZ, 1, none⟩) lZ).trans qZ_1; have el := Nat.lt_of_lt_of_le lZ hU.size; go_simp)) ?_
              simp only [List.setIfInBounds_toArray, List.set_cons_zero, List.set_cons_succ]
              refine calm_to (i := 23) (t := 274) (v := .bool true) rfl rfl (by kernel_rfl) (by kernel_rfl) (by kernel_rfl) (fun _ _ _ h => h) (calm_call2 (by kernel_rfl) 23 (.tmp 272) (.tmp 273) #[24, 24] rfl (enters_of Try.func23 (by kernel_rfl) rfl) (.agg #[.slice A n a, .slice B m b]) (.agg #[.slice Az is.length az, .slice Bz st.length bz]) rfl rfl (fun U hU => (HRZ.out U hU).mono fun _ _ q => ⟨by rw [q.1, sameWo_refl], below3 hU q.2⟩)) ?_
              simp only [List.setIfInBounds_toArray, List.set_cons_zero, List.set_cons_succ]
              refine calm_to (i := 24) (t := 275) (v := .bool true) rfl rfl (by kernel_rfl) (by kernel_rfl) (by kernel_rfl) (fun _ _ _ h => h) (calm_pick (by kernel_rfl) (.tmp 271) (.tmp 274) (.const (.bool false)) rfl true rfl rfl) ?_
              simp only [List.setIfInBounds_toArray, List.set_cons_zero, List.set_cons_succ]
              refine calm_to (i := 25) (t := 10) (v := .bool true) rfl rfl (by kernel_rfl) (by kernel_rfl) (by kernel_rfl) (fun _ _ _ h => h) (calm_move (by kernel_rfl) (.tmp 275) (.inr rfl) rfl) ?_
              simp only [List.setIfInBounds_toArray, List.set_cons_zero, List.set_cons_succ]
              refine calm_done (by kernel_rfl) (fun U hU => ?_) _
              have BF := Lib.hid (below3 BB.out hU)
              clear hU
              clear qD_0 qD_1 lD qO_0 qO_1 lO qZ_0 qZ_1 lZ
              go_wp2_with fail
              go_ret
              exact ⟨rfl, BF.out⟩

end Go.Proofs.Ytmndkofdoclihaa

/-
  The walk of the law ChainBack of layer 6: a node that is pushed, and cut, leaves the chains as they were; a list that is put behind one of none is that one.
-/
import Derived.Test.YtiheeehegjfmgaaUse
namespace Go.Proofs.Ytiheeehegjfmgaa
open Go.RowKit

set_option maxRecDepth 100000 in
set_option maxHeartbeats 4000000 in
theorem lback_long (A B D : Option Addr) (n a m b k d : Nat) (list node tu : Int) (w : World) (hn : n ≤ 9223372036854775807) (hm : m ≤ 9223372036854775807) (hk : k ≤ 9223372036854775807) (hf : fewB n m k = false) :
    Calls Try.prog 6 #[.agg #[.slice A n a, .slice B m b, .slice D k d], .int .i64 list, .int .i64 node, .int .i64 tu] w (TrueAns w) := by
  have BB := Lib.hid ((Below.refl w.heap.size w).alloc (Nat.le_refl _) (.cells #[.slice A n a, .slice B m b, .slice D k d] 24))
  have K_c := Lib.hid (Bk.new w 24 #[.slice A n a, .slice B m b, .slice D k d])
  have HF := Lib.hid hf
  clear hf
  go_enter Try.func6, Try.ntmps6
  go_wp2_with fail
  refine (live_any _).mono ?_
  rintro e w1 ⟨rfl, hb⟩
  have ha := hb
  replace K_c := Lib.hid (K_c.out.below ha K_c.out.lt)
  replace BB := Lib.hid (below3 BB.out ha)
  clear ha hb
  have a_c := K_c.out.e0
  have b_c := K_c.out.e1
  have c_c := K_c.out.e2
  go_wp2_with fail
  refine (few_any A B D n a m b k d _ hn hm hk).mono ?_
  rw [HF.out]
  rintro e w2 ⟨rfl, hb⟩
  clear a_c b_c c_c
  have ha := hb
  replace K_c := Lib.hid (K_c.out.below ha K_c.out.lt)
  replace BB := Lib.hid (below3 BB.out ha)
  clear ha hb
  go_wp2
  go_ret
  exact ⟨rfl, BB.out⟩

set_option maxRecDepth 100000 in
set_option maxHeartbeats 4000000 in
theorem lback_bad (A B D : Option Addr) (a b d : Nat) (next head tail : List Int) (list node tu : Int) (w : World) (hf : fewB next.length head.length tail.length = true) (hp : Chn w A next.length B head.length D tail.length next head tail) (hno : ∀ qs, ¬ Rep next head tail qs) :
    Calls Try.prog 6 #[.agg #[.slice A next.length a, .slice B head.length b, .slice D tail.length d], .int .i64 list, .int .i64 node, .int .i64 tu] w (TrueAns w) := by
  have hb0 := (Below.refl w.heap.size w).alloc (Nat.le_refl _) (.cells #[.slice A next.length a, .slice B head.length b, .slice D tail.length d] 24)
  have BB := Lib.hid hb0
  have K_c := Lib.hid (Bk.new w 24 #[.slice A next.length a, .slice B head.length b, .slice D tail.length d])
  have P_c := Lib.hid (hp.below hb0)
  have HF := Lib.hid hf
  obtain ⟨h1, h2, h3⟩ := fewB_true hf
  have hn : next.length ≤ 9223372036854775807 := by omega
  have hm : head.length ≤ 9223372036854775807 := by omega
  have hk : tail.length ≤ 9223372036854775807 := by omega
  have HNO := Lib.hid hno
  clear hp hf hb0 h1 h2 h3 hno
  go_enter Try.func6, Try.ntmps6
  go_wp2_with fail
  refine (live_any _).mono ?_
  rintro e w1 ⟨rfl, hb⟩
  have ha := hb
  replace K_c := Lib.hid (K_c.out.below ha K_c.out.lt)
  replace P_c := Lib.hid (P_c.out.below ha)
  replace BB := Lib.hid (below3 BB.out ha)
  clear ha hb
  have a_c := K_c.out.e0
  have b_c := K_c.out.e1
  have c_c := K_c.out.e2
  go_wp2_with fail
  refine (few_any A B D next.length a head.length b tail.length d _ hn hm hk).mono ?_
  rw [HF.out]
  rintro e w2 ⟨rfl, hb⟩
  clear a_c b_c c_c
  have ha := hb
  replace K_c := Lib.hid (K_c.out.below ha K_c.out.lt)
  replace P_c := Lib.hid (P_c.out.below ha)
  replace BB := Lib.hid (below3 BB.out ha)
  clear ha hb
  have a_c := K_c.out.e0
  have b_c := K_c.out.e1
  have c_c := K_c.out.e2
  go_wp2_with fail
  refine (check_no A B D next.length a head.length b tail.length d next head tail HNO.out _ P_c.out).mono ?_
  rintro e w3 ⟨rfl, hb⟩
  clear a_c b_c c_c
  have ha := hb
  replace K_c := Lib.hid (K_c.out.below ha K_c.out.lt)
  replace P_c := Lib.hid (P_c.out.below ha)
  replace BB := Lib.hid (below3 BB.out ha)
  clear ha hb
  go_wp2
  go_ret
  exact ⟨rfl, BB.out⟩

set_option maxRecDepth 100000 in
set_option maxHeartbeats 4000000 in
theorem lback_ok_f (A B D : Option Addr) (a b d : Nat) (next head tail : List Int) (qs : List (List Int)) (list node tu : Int) (N1 H1 T1 : List Int) (into zs : List Int) (ef eg : Int) (w : World) (hf : fewB next.length head.length tail.length = true) (hp : Chn w A next.length B head.length D tail.length next head tail) (r : Rep next head tail qs)
    (cp : ∀ (A B D : Option Addr) (n a m b k d : Nat) (w : World), Chn w A n B m D k next head tail → Calls Try.prog 12 #[.agg #[.slice A n a, .slice B m b, .slice D k d], .int .i64 list, .int .i64 node] w (NewCE N1 H1 T1 0 w)) (cc : ∀ (A B D : Option Addr) (n a m b k d : Nat) (w : World), Chn w A n B m D k N1 H1 T1 → Calls Try.prog 16 #[.agg #[.slice A n a, .slice B m b, .slice D k d], .int .i64 node] w (NewCE next head tail 0 w)) (cw : ∀ (A B D : Option Addr) (n a m b k d : Nat) (w : World), Chn w A n B m D k next head tail → Calls Try.prog 23 #[.agg #[.slice A n a, .slice B m b, .slice D k d], .int .i64 tu] w (RetIE into ef w)) (cl : ∀ (A B D : Option Addr) (n a m b k d : Nat) (w : World), Chn w A n B m D k next head tail → Calls Try.prog 23 #[.agg #[.slice A n a, .slice B m b, .slice D k d], .int .i64 list] w (RetIE zs eg w)) (hef : ef ≠ 0) :
    Calls Try.prog 6 #[.agg #[.slice A next.length a, .slice B head.length b, .slice D tail.length d], .int .i64 list, .int .i64 node, .int .i64 tu] w (TrueAns w) := by
  have hb0 := (Below.refl w.heap.size w).alloc (Nat.le_refl _) (.cells #[.slice A next.length a, .slice B head.length b, .slice D tail.length d] 24)
  have BB := Lib.hid hb0
  have K_c := Lib.hid (Bk.new w 24 #[.slice A next.length a, .slice B head.length b, .slice D tail.length d])
  have P_c := Lib.hid (hp.below hb0)
  have HF := Lib.hid hf
  obtain ⟨h1, h2, h3⟩ := fewB_true hf
  have hn : next.length ≤ 9223372036854775807 := by omega
  have hm : head.length ≤ 9223372036854775807 := by omega
  have hk : tail.length ≤ 9223372036854775807 := by omega
  have CP := Lib.hid cp
  have CW := Lib.hid cw
  have CL := Lib.hid cl
  have CC := Lib.hid cc
  have R := Lib.hid r
  have tf : (ef != 0) = true := by simp [hef]
  clear hp hf hb0 h1 h2 h3 r cp cw cl cc  hef
  go_enter Try.func6, Try.ntmps6
  go_wp2_with fail
  refine (live_any _).mono ?_
  rintro e w1 ⟨rfl, hb⟩
  have ha := hb
  replace K_c := Lib.hid (K_c.out.below ha K_c.out.lt)
  replace P_c := Lib.hid (P_c.out.below ha)
  replace BB := Lib.hid (below3 BB.out ha)
  clear ha hb
  have a_c := K_c.out.e0
  have b_c := K_c.out.e1
  have c_c := K_c.out.e2
  go_wp2_with fail
  refine (few_any A B D next.length a head.length b tail.length d _ hn hm hk).mono ?_
  rw [HF.out]
  rintro e w2 ⟨rfl, hb⟩
  clear a_c b_c c_c
  have ha := hb
  replace K_c := Lib.hid (K_c.out.below ha K_c.out.lt)
  replace P_c := Lib.hid (P_c.out.below ha)
  replace BB := Lib.hid (below3 BB.out ha)
  clear ha hb
  have a_c := K_c.out.e0
  have b_c := K_c.out.e1
  have c_c := K_c.out.e2
  go_wp2_with fail
  refine (check_yes A B D next.length a head.length b tail.length d next head tail qs R.out _ P_c.out).mono ?_
  rintro e w3 ⟨rfl, hb⟩
  clear a_c b_c c_c
  have ha := hb
  replace K_c := Lib.hid (K_c.out.below ha K_c.out.lt)
  replace P_c := Lib.hid (P_c.out.below ha)
  replace BB := Lib.hid (below3 BB.out ha)
  clear ha hb
  have a_c := K_c.out.e0
  have b_c := K_c.out.e1
  have c_c := K_c.out.e2
  go_wp2_with fail
  refine (CP.out A B D next.length a head.length b tail.length d _ P_c.out).mono ?_
  rintro e w4 ⟨Ap, ap, Bp, bp, Dp, dp, rfl, ho, hb⟩
  clear a_c b_c c_c
  have ha := hb.alloc hb.size (.cells #[.slice Ap N1.length ap, .slice Bp H1.length bp, .slice Dp T1.length dp] 24)
  have han := (Below.refl w4.heap.size w4).alloc (Nat.le_refl _) (.cells #[.slice Ap N1.length ap, .slice Bp H1.length bp, .slice Dp T1.length dp] 24)
  replace K_c := Lib.hid (K_c.out.below ha K_c.out.lt)
  replace P_c := Lib.hid (P_c.out.below ha)
  replace BB := Lib.hid (below3 BB.out ha)
  have P_a := Lib.hid ((ho.c.chn).below han)
  have K_a := Lib.hid (Bk.new w4 24 #[.slice Ap N1.length ap, .slice Bp H1.length bp, .slice Dp T1.length dp])
  clear ha hb han ho
  have a_a := K_a.out.e0
  have b_a := K_a.out.e1
  have c_a := K_a.out.e2
  go_wp2_with fail
  refine (CC.out Ap Bp Dp N1.length ap H1.length bp T1.length dp _ P_a.out).mono ?_
  rintro e w5 ⟨Aq, aq, Bq, bq, Dq, dq, rfl, ho, hb⟩
  clear a_a b_a c_a
  have ha := hb.alloc hb.size (.cells #[.slice Aq next.length aq, .slice Bq head.length bq, .slice Dq tail.length dq] 24)
  have han := (Below.refl w5.heap.size w5).alloc (Nat.le_refl _) (.cells #[.slice Aq next.length aq, .slice Bq head.length bq, .slice Dq tail.length dq] 24)
  replace K_c := Lib.hid (K_c.out.below ha K_c.out.lt)
  replace K_a := Lib.hid (K_a.out.below ha K_a.out.lt)
  replace P_c := Lib.hid (P_c.out.below ha)
  replace P_a := Lib.hid (P_a.out.below ha)
  replace BB := Lib.hid (below3 BB.out ha)
  have P_b := Lib.hid ((ho.c.chn).below han)
  have K_b := Lib.hid (Bk.new w5 24 #[.slice Aq next.length aq, .slice Bq head.length bq, .slice Dq tail.length dq])
  clear ha hb han ho
  have a_b := K_b.out.e0
  have b_b := K_b.out.e1
  have c_b := K_b.out.e2
  have a_c := K_c.out.e0
  have b_c := K_c.out.e1
  have c_c := K_c.out.e2
  go_wp2_with fail
  refine (same_yes Aq Bq Dq A B D next.length aq head.length bq tail.length dq a b d next head tail _ P_b.out P_c.out).mono ?_
  rintro e w6 ⟨rfl, hb⟩
  clear a_b b_b c_b a_c b_c c_c
  have ha := hb
  replace K_c := Lib.hid (K_c.out.below ha K_c.out.lt)
  replace K_a := Lib.hid (K_a.out.below ha K_a.out.lt)
  replace K_b := Lib.hid (K_b.out.below ha K_b.out.lt)
  replace P_c := Lib.hid (P_c.out.below ha)
  replace P_a := Lib.hid (P_a.out.below ha)
  replace P_b := Lib.hid (P_b.out.below ha)
  replace BB := Lib.hid (below3 BB.out ha)
  clear ha hb
  have a_c := K_c.out.e0
  have b_c := K_c.out.e1
  have c_c := K_c.out.e2
  go_wp2_with fail
  refine (CW.out A B D next.length a head.length b tail.length d _ P_c.out).mono ?_
  rintro e w7 ⟨Ai, ai, rfl, ho, hb⟩
  clear a_c b_c c_c
  have ha := hb
  replace K_c := Lib.hid (K_c.out.below ha K_c.out.lt)
  replace K_a := Lib.hid (K_a.out.below ha K_a.out.lt)
  replace K_b := Lib.hid (K_b.out.below ha K_b.out.lt)
  replace P_c := Lib.hid (P_c.out.below ha)
  replace P_a := Lib.hid (P_a.out.below ha)
  replace P_b := Lib.hid (P_b.out.below ha)
  replace BB := Lib.hid (below3 BB.out ha)
  have I_i := Lib.hid (ho.ints)
  clear ha hb ho
  have a_c := K_c.out.e0
  have b_c := K_c.out.e1
  have c_c := K_c.out.e2
  go_wp2_with fail
  refine (CL.out A B D next.length a head.length b tail.length d _ P_c.out).mono ?_
  rintro e w8 ⟨Al, al, rfl, ho, hb⟩
  clear a_c b_c c_c
  have ha := hb
  replace K_c := Lib.hid (K_c.out.below ha K_c.out.lt)
  replace K_a := Lib.hid (K_a.out.below ha K_a.out.lt)
  replace K_b := Lib.hid (K_b.out.below ha K_b.out.lt)
  replace P_c := Lib.hid (P_c.out.below ha)
  replace P_a := Lib.hid (P_a.out.below ha)
  replace P_b := Lib.hid (P_b.out.below ha)
  replace I_i := Lib.hid (I_i.out.below ha)
  replace BB := Lib.hid (below3 BB.out ha)
  have I_l := Lib.hid (ho.ints)
  clear ha hb ho
  clear P_c P_a P_b I_i I_l K_c K_a K_b
  go_wp2
  go_ret
  exact ⟨rfl, BB.out⟩

set_option maxRecDepth 100000 in
set_option maxHeartbeats 4000000 in
theorem lback_ok_g (A B D : Option Addr) (a b d : Nat) (next head tail : List Int) (qs : List (List Int)) (list node tu : Int) (N1 H1 T1 : List Int) (into zs : List Int) (eg : Int) (w : World) (hf : fewB next.length head.length tail.length = true) (hp : Chn w A next.length B head.length D tail.length next head tail) (r : Rep next head tail qs)
    (cp : ∀ (A B D : Option Addr) (n a m b k d : Nat) (w : World), Chn w A n B m D k next head tail → Calls Try.prog 12 #[.agg #[.slice A n a, .slice B m b, .slice D k d], .int .i64 list, .int .i64 node] w (NewCE N1 H1 T1 0 w)) (cc : ∀ (A B D : Option Addr) (n a m b k d : Nat) (w : World), Chn w A n B m D k N1 H1 T1 → Calls Try.prog 16 #[.agg #[.slice A n a, .slice B m b, .slice D k d], .int .i64 node] w (NewCE next head tail 0 w)) (cw : ∀ (A B D : Option Addr) (n a m b k d : Nat) (w : World), Chn w A n B m D k next head tail → Calls Try.prog 23 #[.agg #[.slice A n a, .slice B m b, .slice D k d], .int .i64 tu] w (RetIE into 0 w)) (cl : ∀ (A B D : Option Addr) (n a m b k d : Nat) (w : World), Chn w A n B m D k next head tail → Calls Try.prog 23 #[.agg #[.slice A n a, .slice B m b, .slice D k d], .int .i64 list] w (RetIE zs eg w)) (heg : eg ≠ 0) :
    Calls Try.prog 6 #[.agg #[.slice A next.length a, .slice B head.length b, .slice D tail.length d], .int .i64 list, .int .i64 node, .int .i64 tu] w (TrueAns w) := by
  have hb0 := (Below.refl w.heap.size w).alloc (Nat.le_refl _) (.cells #[.slice A next.length a, .slice B head.length b, .slice D tail.length d] 24)
  have BB := Lib.hid hb0
  have K_c := Lib.hid (Bk.new w 24 #[.slice A next.length a, .slice B head.length b, .slice D tail.length d])
  have P_c := Lib.hid (hp.below hb0)
  have HF := Lib.hid hf
  obtain ⟨h1, h2, h3⟩ := fewB_true hf
  have hn : next.length ≤ 9223372036854775807 := by omega
  have hm : head.length ≤ 9223372036854775807 := by omega
  have hk : tail.length ≤ 9223372036854775807 := by omega
  have CP := Lib.hid cp
  have CW := Lib.hid cw
  have CL := Lib.hid cl
  have CC := Lib.hid cc
  have R := Lib.hid r
  have tg : (eg != 0) = true := by simp [heg]
  clear hp hf hb0 h1 h2 h3 r cp cw cl cc  heg
  go_enter Try.func6, Try.ntmps6
  go_wp2_with fail
  refine (live_any _).mono ?_
  rintro e w1 ⟨rfl, hb⟩
  have ha := hb
  replace K_c := Lib.hid (K_c.out.below ha K_c.out.lt)
  replace P_c := Lib.hid (P_c.out.below ha)
  replace BB := Lib.hid (below3 BB.out ha)
  clear ha hb
  have a_c := K_c.out.e0
  have b_c := K_c.out.e1
  have c_c := K_c.out.e2
  go_wp2_with fail
  refine (few_any A B D next.length a head.length b tail.length d _ hn hm hk).mono ?_
  rw [HF.out]
  rintro e w2 ⟨rfl, hb⟩
  clear a_c b_c c_c
  have ha := hb
  replace K_c := Lib.hid (K_c.out.below ha K_c.out.lt)
  replace P_c := Lib.hid (P_c.out.below ha)
  replace BB := Lib.hid (below3 BB.out ha)
  clear ha hb
  have a_c := K_c.out.e0
  have b_c := K_c.out.e1
  have c_c := K_c.out.e2
  go_wp2_with fail
  refine (check_yes A B D next.length a head.length b tail.length d next head tail qs R.out _ P_c.out).mono ?_
  rintro e w3 ⟨rfl, hb⟩
  clear a_c b_c c_c
  have ha := hb
  replace K_c := Lib.hid (K_c.out.below ha K_c.out.lt)
  replace P_c := Lib.hid (P_c.out.below ha)
  replace BB := Lib.hid (below3 BB.out ha)
  clear ha hb
  have a_c := K_c.out.e0
  have b_c := K_c.out.e1
  have c_c := K_c.out.e2
  go_wp2_with fail
  refine (CP.out A B D next.length a head.length b tail.length d _ P_c.out).mono ?_
  rintro e w4 ⟨Ap, ap, Bp, bp, Dp, dp, rfl, ho, hb⟩
  clear a_c b_c c_c
  have ha := hb.alloc hb.size (.cells #[.slice Ap N1.length ap, .slice Bp H1.length bp, .slice Dp T1.length dp] 24)
  have han := (Below.refl w4.heap.size w4).alloc (Nat.le_refl _) (.cells #[.slice Ap N1.length ap, .slice Bp H1.length bp, .slice Dp T1.length dp] 24)
  replace K_c := Lib.hid (K_c.out.below ha K_c.out.lt)
  replace P_c := Lib.hid (P_c.out.below ha)
  replace BB := Lib.hid (below3 BB.out ha)
  have P_a := Lib.hid ((ho.c.chn).below han)
  have K_a := Lib.hid (Bk.new w4 24 #[.slice Ap N1.length ap, .slice Bp H1.length bp, .slice Dp T1.length dp])
  clear ha hb han ho
  have a_a := K_a.out.e0
  have b_a := K_a.out.e1
  have c_a := K_a.out.e2
  go_wp2_with fail
  refine (CC.out Ap Bp Dp N1.length ap H1.length bp T1.length dp _ P_a.out).mono ?_
  rintro e w5 ⟨Aq, aq, Bq, bq, Dq, dq, rfl, ho, hb⟩
  clear a_a b_a c_a
  have ha := hb.alloc hb.size (.cells #[.slice Aq next.length aq, .slice Bq head.length bq, .slice Dq tail.length dq] 24)
  have han := (Below.refl w5.heap.size w5).alloc (Nat.le_refl _) (.cells #[.slice Aq next.length aq, .slice Bq head.length bq, .slice Dq tail.length dq] 24)
  replace K_c := Lib.hid (K_c.out.below ha K_c.out.lt)
  replace K_a := Lib.hid (K_a.out.below ha K_a.out.lt)
  replace P_c := Lib.hid (P_c.out.below ha)
  replace P_a := Lib.hid (P_a.out.below ha)
  replace BB := Lib.hid (below3 BB.out ha)
  have P_b := Lib.hid ((ho.c.chn).below han)
  have K_b := Lib.hid (Bk.new w5 24 #[.slice Aq next.length aq, .slice Bq head.length bq, .slice Dq tail.length dq])
  clear ha hb han ho
  have a_b := K_b.out.e0
  have b_b := K_b.out.e1
  have c_b := K_b.out.e2
  have a_c := K_c.out.e0
  have b_c := K_c.out.e1
  have c_c := K_c.out.e2
  go_wp2_with fail
  refine (same_yes Aq Bq Dq A B D next.length aq head.length bq tail.length dq a b d next head tail _ P_b.out P_c.out).mono ?_
  rintro e w6 ⟨rfl, hb⟩
  clear a_b b_b c_b a_c b_c c_c
  have ha := hb
  replace K_c := Lib.hid (K_c.out.below ha K_c.out.lt)
  replace K_a := Lib.hid (K_a.out.below ha K_a.out.lt)
  replace K_b := Lib.hid (K_b.out.below ha K_b.out.lt)
  replace P_c := Lib.hid (P_c.out.below ha)
  replace P_a := Lib.hid (P_a.out.below ha)
  replace P_b := Lib.hid (P_b.out.below ha)
  replace BB := Lib.hid (below3 BB.out ha)
  clear ha hb
  have a_c := K_c.out.e0
  have b_c := K_c.out.e1
  have c_c := K_c.out.e2
  go_wp2_with fail
  refine (CW.out A B D next.length a head.length b tail.length d _ P_c.out).mono ?_
  rintro e w7 ⟨Ai, ai, rfl, ho, hb⟩
  clear a_c b_c c_c
  have ha := hb
  replace K_c := Lib.hid (K_c.out.below ha K_c.out.lt)
  replace K_a := Lib.hid (K_a.out.below ha K_a.out.lt)
  replace K_b := Lib.hid (K_b.out.below ha K_b.out.lt)
  replace P_c := Lib.hid (P_c.out.below ha)
  replace P_a := Lib.hid (P_a.out.below ha)
  replace P_b := Lib.hid (P_b.out.below ha)
  replace BB := Lib.hid (below3 BB.out ha)
  have I_i := Lib.hid (ho.ints)
  clear ha hb ho
  have a_c := K_c.out.e0
  have b_c := K_c.out.e1
  have c_c := K_c.out.e2
  go_wp2_with fail
  refine (CL.out A B D next.length a head.length b tail.length d _ P_c.out).mono ?_
  rintro e w8 ⟨Al, al, rfl, ho, hb⟩
  clear a_c b_c c_c
  have ha := hb
  replace K_c := Lib.hid (K_c.out.below ha K_c.out.lt)
  replace K_a := Lib.hid (K_a.out.below ha K_a.out.lt)
  replace K_b := Lib.hid (K_b.out.below ha K_b.out.lt)
  replace P_c := Lib.hid (P_c.out.below ha)
  replace P_a := Lib.hid (P_a.out.below ha)
  replace P_b := Lib.hid (P_b.out.below ha)
  replace I_i := Lib.hid (I_i.out.below ha)
  replace BB := Lib.hid (below3 BB.out ha)
  have I_l := Lib.hid (ho.ints)
  clear ha hb ho
  clear P_c P_a P_b I_i I_l K_c K_a K_b
  go_wp2
  go_ret
  exact ⟨rfl, BB.out⟩

set_option maxRecDepth 100000 in
set_option maxHeartbeats 4000000 in
theorem lback_ok_i (A B D : Option Addr) (a b d : Nat) (next head tail : List Int) (qs : List (List Int)) (list node tu : Int) (N1 H1 T1 : List Int) (into zs : List Int) (w : World) (hf : fewB next.length head.length tail.length = true) (hp : Chn w A next.length B head.length D tail.length next head tail) (r : Rep next head tail qs)
    (cp : ∀ (A B D : Option Addr) (n a m b k d : Nat) (w : World), Chn w A n B m D k next head tail → Calls Try.prog 12 #[.agg #[.slice A n a, .slice B m b, .slice D k d], .int .i64 list, .int .i64 node] w (NewCE N1 H1 T1 0 w)) (cc : ∀ (A B D : Option Addr) (n a m b k d : Nat) (w : World), Chn w A n B m D k N1 H1 T1 → Calls Try.prog 16 #[.agg #[.slice A n a, .slice B m b, .slice D k d], .int .i64 node] w (NewCE next head tail 0 w)) (cw : ∀ (A B D : Option Addr) (n a m b k d : Nat) (w : World), Chn w A n B m D k next head tail → Calls Try.prog 23 #[.agg #[.slice A n a, .slice B m b, .slice D k d], .int .i64 tu] w (RetIE into 0 w)) (cl : ∀ (A B D : Option Addr) (n a m b k d : Nat) (w : World), Chn w A n B m D k next head tail → Calls Try.prog 23 #[.agg #[.slice A n a, .slice B m b, .slice D k d], .int .i64 list] w (RetIE zs 0 w)) (hin : 0 < into.length) :
    Calls Try.prog 6 #[.agg #[.slice A next.length a, .slice B head.length b, .slice D tail.length d], .int .i64 list, .int .i64 node, .int .i64 tu] w (TrueAns w) := by
  have hb0 := (Below.refl w.heap.size w).alloc (Nat.le_refl _) (.cells #[.slice A next.length a, .slice B head.length b, .slice D tail.length d] 24)
  have BB := Lib.hid hb0
  have K_c := Lib.hid (Bk.new w 24 #[.slice A next.length a, .slice B head.length b, .slice D tail.length d])
  have P_c := Lib.hid (hp.below hb0)
  have HF := Lib.hid hf
  obtain ⟨h1, h2, h3⟩ := fewB_true hf
  have hn : next.length ≤ 9223372036854775807 := by omega
  have hm : head.length ≤ 9223372036854775807 := by omega
  have hk : tail.length ≤ 9223372036854775807 := by omega
  have CP := Lib.hid cp
  have CW := Lib.hid cw
  have CL := Lib.hid cl
  have CC := Lib.hid cc
  have R := Lib.hid r
  clear hp hf hb0 h1 h2 h3 r cp cw cl cc  
  go_enter Try.func6, Try.ntmps6
  go_wp2_with fail
  refine (live_any _).mono ?_
  rintro e w1 ⟨rfl, hb⟩
  have ha := hb
  replace K_c := Lib.hid (K_c.out.below ha K_c.out.lt)
  replace P_c := Lib.hid (P_c.out.below ha)
  replace BB := Lib.hid (below3 BB.out ha)
  clear ha hb
  have a_c := K_c.out.e0
  have b_c := K_c.out.e1
  have c_c := K_c.out.e2
  go_wp2_with fail
  refine (few_any A B D next.length a head.length b tail.length d _ hn hm hk).mono ?_
  rw [HF.out]
  rintro e w2 ⟨rfl, hb⟩
  clear a_c b_c c_c
  have ha := hb
  replace K_c := Lib.hid (K_c.out.below ha K_c.out.lt)
  replace P_c := Lib.hid (P_c.out.below ha)
  replace BB := Lib.hid (below3 BB.out ha)
  clear ha hb
  have a_c := K_c.out.e0
  have b_c := K_c.out.e1
  have c_c := K_c.out.e2
  go_wp2_with fail
  refine (check_yes A B D next.length a head.length b tail.length d next head tail qs R.out _ P_c.out).mono ?_
  rintro e w3 ⟨rfl, hb⟩
  clear a_c b_c c_c
  have ha := hb
  replace K_c := Lib.hid (K_c.out.below ha K_c.out.lt)
  replace P_c := Lib.hid (P_c.out.below ha)
  replace BB := Lib.hid (below3 BB.out ha)
  clear ha hb
  have a_c := K_c.out.e0
  have b_c := K_c.out.e1
  have c_c := K_c.out.e2
  go_wp2_with fail
  refine (CP.out A B D next.length a head.length b tail.length d _ P_c.out).mono ?_
  rintro e w4 ⟨Ap, ap, Bp, bp, Dp, dp, rfl, ho, hb⟩
  clear a_c b_c c_c
  have ha := hb.alloc hb.size (.cells #[.slice Ap N1.length ap, .slice Bp H1.length bp, .slice Dp T1.length dp] 24)
  have han := (Below.refl w4.heap.size w4).alloc (Nat.le_refl _) (.cells #[.slice Ap N1.length ap, .slice Bp H1.length bp, .slice Dp T1.length dp] 24)
  replace K_c := Lib.hid (K_c.out.below ha K_c.out.lt)
  replace P_c := Lib.hid (P_c.out.below ha)
  replace BB := Lib.hid (below3 BB.out ha)
  have P_a := Lib.hid ((ho.c.chn).below han)
  have K_a := Lib.hid (Bk.new w4 24 #[.slice Ap N1.length ap, .slice Bp H1.length bp, .slice Dp T1.length dp])
  clear ha hb han ho
  have a_a := K_a.out.e0
  have b_a := K_a.out.e1
  have c_a := K_a.out.e2
  go_wp2_with fail
  refine (CC.out Ap Bp Dp N1.length ap H1.length bp T1.length dp _ P_a.out).mono ?_
  rintro e w5 ⟨Aq, aq, Bq, bq, Dq, dq, rfl, ho, hb⟩
  clear a_a b_a c_a
  have ha := hb.alloc hb.size (.cells #[.slice Aq next.length aq, .slice Bq head.length bq, .slice Dq tail.length dq] 24)
  have han := (Below.refl w5.heap.size w5).alloc (Nat.le_refl _) (.cells #[.slice Aq next.length aq, .slice Bq head.length bq, .slice Dq tail.length dq] 24)
  replace K_c := Lib.hid (K_c.out.below ha K_c.out.lt)
  replace K_a := Lib.hid (K_a.out.below ha K_a.out.lt)
  replace P_c := Lib.hid (P_c.out.below ha)
  replace P_a := Lib.hid (P_a.out.below ha)
  replace BB := Lib.hid (below3 BB.out ha)
  have P_b := Lib.hid ((ho.c.chn).below han)
  have K_b := Lib.hid (Bk.new w5 24 #[.slice Aq next.length aq, .slice Bq head.length bq, .slice Dq tail.length dq])
  clear ha hb han ho
  have a_b := K_b.out.e0
  have b_b := K_b.out.e1
  have c_b := K_b.out.e2
  have a_c := K_c.out.e0
  have b_c := K_c.out.e1
  have c_c := K_c.out.e2
  go_wp2_with fail
  refine (same_yes Aq Bq Dq A B D next.length aq head.length bq tail.length dq a b d next head tail _ P_b.out P_c.out).mono ?_
  rintro e w6 ⟨rfl, hb⟩
  clear a_b b_b c_b a_c b_c c_c
  have ha := hb
  replace K_c := Lib.hid (K_c.out.below ha K_c.out.lt)
  replace K_a := Lib.hid (K_a.out.below ha K_a.out.lt)
  replace K_b := Lib.hid (K_b.out.below ha K_b.out.lt)
  replace P_c := Lib.hid (P_c.out.below ha)
  replace P_a := Lib.hid (P_a.out.below ha)
  replace P_b := Lib.hid (P_b.out.below ha)
  replace BB := Lib.hid (below3 BB.out ha)
  clear ha hb
  have a_c := K_c.out.e0
  have b_c := K_c.out.e1
  have c_c := K_c.out.e2
  go_wp2_with fail
  refine (CW.out A B D next.length a head.length b tail.length d _ P_c.out).mono ?_
  rintro e w7 ⟨Ai, ai, rfl, ho, hb⟩
  clear a_c b_c c_c
  have ha := hb
  replace K_c := Lib.hid (K_c.out.below ha K_c.out.lt)
  replace K_a := Lib.hid (K_a.out.below ha K_a.out.lt)
  replace K_b := Lib.hid (K_b.out.below ha K_b.out.lt)
  replace P_c := Lib.hid (P_c.out.below ha)
  replace P_a := Lib.hid (P_a.out.below ha)
  replace P_b := Lib.hid (P_b.out.below ha)
  replace BB := Lib.hid (below3 BB.out ha)
  have I_i := Lib.hid (ho.ints)
  clear ha hb ho
  have a_c := K_c.out.e0
  have b_c := K_c.out.e1
  have c_c := K_c.out.e2
  go_wp2_with fail
  refine (CL.out A B D next.length a head.length b tail.length d _ P_c.out).mono ?_
  rintro e w8 ⟨Al, al, rfl, ho, hb⟩
  clear a_c b_c c_c
  have ha := hb
  replace K_c := Lib.hid (K_c.out.below ha K_c.out.lt)
  replace K_a := Lib.hid (K_a.out.below ha K_a.out.lt)
  replace K_b := Lib.hid (K_b.out.below ha K_b.out.lt)
  replace P_c := Lib.hid (P_c.out.below ha)
  replace P_a := Lib.hid (P_a.out.below ha)
  replace P_b := Lib.hid (P_b.out.below ha)
  replace I_i := Lib.hid (I_i.out.below ha)
  replace BB := Lib.hid (below3 BB.out ha)
  have I_l := Lib.hid (ho.ints)
  clear ha hb ho
  have hi63 : into.length ≤ 140737488351232 := by have := I_i.out.2.1; omega
  clear P_c P_a P_b I_i I_l K_c K_a K_b
  go_wp2
  go_ret
  exact ⟨rfl, BB.out⟩

set_option maxRecDepth 100000 in
set_option maxHeartbeats 4000000 in
theorem lback_ok_s (A B D : Option Addr) (a b d : Nat) (next head tail : List Int) (qs : List (List Int)) (list node tu : Int) (N1 H1 T1 : List Int) (zs : List Int) (w : World) (hf : fewB next.length head.length tail.length = true) (hp : Chn w A next.length B head.length D tail.length next head tail) (r : Rep next head tail qs)
    (cp : ∀ (A B D : Option Addr) (n a m b k d : Nat) (w : World), Chn w A n B m D k next head tail → Calls Try.prog 12 #[.agg #[.slice A n a, .slice B m b, .slice D k d], .int .i64 list, .int .i64 node] w (NewCE N1 H1 T1 0 w)) (cc : ∀ (A B D : Option Addr) (n a m b k d : Nat) (w : World), Chn w A n B m D k N1 H1 T1 → Calls Try.prog 16 #[.agg #[.slice A n a, .slice B m b, .slice D k d], .int .i64 node] w (NewCE next head tail 0 w)) (cw : ∀ (A B D : Option Addr) (n a m b k d : Nat) (w : World), Chn w A n B m D k next head tail → Calls Try.prog 23 #[.agg #[.slice A n a, .slice B m b, .slice D k d], .int .i64 tu] w (RetIE [] 0 w)) (cl : ∀ (A B D : Option Addr) (n a m b k d : Nat) (w : World), Chn w A n B m D k next head tail → Calls Try.prog 23 #[.agg #[.slice A n a, .slice B m b, .slice D k d], .int .i64 list] w (RetIE zs 0 w)) (hlt : list = tu) :
    Calls Try.prog 6 #[.agg #[.slice A next.length a, .slice B head.length b, .slice D tail.length d], .int .i64 list, .int .i64 node, .int .i64 tu] w (TrueAns w) := by
  have hb0 := (Below.refl w.heap.size w).alloc (Nat.le_refl _) (.cells #[.slice A next.length a, .slice B head.length b, .slice D tail.length d] 24)
  have BB := Lib.hid hb0
  have K_c := Lib.hid (Bk.new w 24 #[.slice A next.length a, .slice B head.length b, .slice D tail.length d])
  have P_c := Lib.hid (hp.below hb0)
  have HF := Lib.hid hf
  obtain ⟨h1, h2, h3⟩ := fewB_true hf
  have hn : next.length ≤ 9223372036854775807 := by omega
  have hm : head.length ≤ 9223372036854775807 := by omega
  have hk : tail.length ≤ 9223372036854775807 := by omega
  have CP := Lib.hid cp
  have CW := Lib.hid cw
  have CL := Lib.hid cl
  have CC := Lib.hid cc
  have R := Lib.hid r
  subst hlt
  have tl : (list == list) = true := by simp
  clear hp hf hb0 h1 h2 h3 r cp cw cl cc  
  go_enter Try.func6, Try.ntmps6
  go_wp2_with fail
  refine (live_any _).mono ?_
  rintro e w1 ⟨rfl, hb⟩
  have ha := hb
  replace K_c := Lib.hid (K_c.out.below ha K_c.out.lt)
  replace P_c := Lib.hid (P_c.out.below ha)
  replace BB := Lib.hid (below3 BB.out ha)
  clear ha hb
  have a_c := K_c.out.e0
  have b_c := K_c.out.e1
  have c_c := K_c.out.e2
  go_wp2_with fail
  refine (few_any A B D next.length a head.length b tail.length d _ hn hm hk).mono ?_
  rw [HF.out]
  rintro e w2 ⟨rfl, hb⟩
  clear a_c b_c c_c
  have ha := hb
  replace K_c := Lib.hid (K_c.out.below ha K_c.out.lt)
  replace P_c := Lib.hid (P_c.out.below ha)
  replace BB := Lib.hid (below3 BB.out ha)
  clear ha hb
  have a_c := K_c.out.e0
  have b_c := K_c.out.e1
  have c_c := K_c.out.e2
  go_wp2_with fail
  refine (check_yes A B D next.length a head.length b tail.length d next head tail qs R.out _ P_c.out).mono ?_
  rintro e w3 ⟨rfl, hb⟩
  clear a_c b_c c_c
  have ha := hb
  replace K_c := Lib.hid (K_c.out.below ha K_c.out.lt)
  replace P_c := Lib.hid (P_c.out.below ha)
  replace BB := Lib.hid (below3 BB.out ha)
  clear ha hb
  have a_c := K_c.out.e0
  have b_c := K_c.out.e1
  have c_c := K_c.out.e2
  go_wp2_with fail
  refine (CP.out A B D next.length a head.length b tail.length d _ P_c.out).mono ?_
  rintro e w4 ⟨Ap, ap, Bp, bp, Dp, dp, rfl, ho, hb⟩
  clear a_c b_c c_c
  have ha := hb.alloc hb.size (.cells #[.slice Ap N1.length ap, .slice Bp H1.length bp, .slice Dp T1.length dp] 24)
  have han := (Below.refl w4.heap.size w4).alloc (Nat.le_refl _) (.cells #[.slice Ap N1.length ap, .slice Bp H1.length bp, .slice Dp T1.length dp] 24)
  replace K_c := Lib.hid (K_c.out.below ha K_c.out.lt)
  replace P_c := Lib.hid (P_c.out.below ha)
  replace BB := Lib.hid (below3 BB.out ha)
  have P_a := Lib.hid ((ho.c.chn).below han)
  have K_a := Lib.hid (Bk.new w4 24 #[.slice Ap N1.length ap, .slice Bp H1.length bp, .slice Dp T1.length dp])
  clear ha hb han ho
  have a_a := K_a.out.e0
  have b_a := K_a.out.e1
  have c_a := K_a.out.e2
  go_wp2_with fail
  refine (CC.out Ap Bp Dp N1.length ap H1.length bp T1.length dp _ P_a.out).mono ?_
  rintro e w5 ⟨Aq, aq, Bq, bq, Dq, dq, rfl, ho, hb⟩
  clear a_a b_a c_a
  have ha := hb.alloc hb.size (.cells #[.slice Aq next.length aq, .slice Bq head.length bq, .slice Dq tail.length dq] 24)
  have han := (Below.refl w5.heap.size w5).alloc (Nat.le_refl _) (.cells #[.slice Aq next.length aq, .slice Bq head.length bq, .slice Dq tail.length dq] 24)
  replace K_c := Lib.hid (K_c.out.below ha K_c.out.lt)
  replace K_a := Lib.hid (K_a.out.below ha K_a.out.lt)
  replace P_c := Lib.hid (P_c.out.below ha)
  replace P_a := Lib.hid (P_a.out.below ha)
  replace BB := Lib.hid (below3 BB.out ha)
  have P_b := Lib.hid ((ho.c.chn).below han)
  have K_b := Lib.hid (Bk.new w5 24 #[.slice Aq next.length aq, .slice Bq head.length bq, .slice Dq tail.length dq])
  clear ha hb han ho
  have a_b := K_b.out.e0
  have b_b := K_b.out.e1
  have c_b := K_b.out.e2
  have a_c := K_c.out.e0
  have b_c := K_c.out.e1
  have c_c := K_c.out.e2
  go_wp2_with fail
  refine (same_yes Aq Bq Dq A B D next.length aq head.length bq tail.length dq a b d next head tail _ P_b.out P_c.out).mono ?_
  rintro e w6 ⟨rfl, hb⟩
  clear a_b b_b c_b a_c b_c c_c
  have ha := hb
  replace K_c := Lib.hid (K_c.out.below ha K_c.out.lt)
  replace K_a := Lib.hid (K_a.out.below ha K_a.out.lt)
  replace K_b := Lib.hid (K_b.out.below ha K_b.out.lt)
  replace P_c := Lib.hid (P_c.out.below ha)
  replace P_a := Lib.hid (P_a.out.below ha)
  replace P_b := Lib.hid (P_b.out.below ha)
  replace BB := Lib.hid (below3 BB.out ha)
  clear ha hb
  have a_c := K_c.out.e0
  have b_c := K_c.out.e1
  have c_c := K_c.out.e2
  go_wp2_with fail
  refine (CW.out A B D next.length a head.length b tail.length d _ P_c.out).mono ?_
  rintro e w7 ⟨Ai, ai, rfl, ho, hb⟩
  clear a_c b_c c_c
  have ha := hb
  replace K_c := Lib.hid (K_c.out.below ha K_c.out.lt)
  replace K_a := Lib.hid (K_a.out.below ha K_a.out.lt)
  replace K_b := Lib.hid (K_b.out.below ha K_b.out.lt)
  replace P_c := Lib.hid (P_c.out.below ha)
  replace P_a := Lib.hid (P_a.out.below ha)
  replace P_b := Lib.hid (P_b.out.below ha)
  replace BB := Lib.hid (below3 BB.out ha)
  have I_i := Lib.hid (ho.ints)
  clear ha hb ho
  have a_c := K_c.out.e0
  have b_c := K_c.out.e1
  have c_c := K_c.out.e2
  go_wp2_with fail
  refine (CL.out A B D next.length a head.length b tail.length d _ P_c.out).mono ?_
  rintro e w8 ⟨Al, al, rfl, ho, hb⟩
  clear a_c b_c c_c
  have ha := hb
  replace K_c := Lib.hid (K_c.out.below ha K_c.out.lt)
  replace K_a := Lib.hid (K_a.out.below ha K_a.out.lt)
  replace K_b := Lib.hid (K_b.out.below ha K_b.out.lt)
  replace P_c := Lib.hid (P_c.out.below ha)
  replace P_a := Lib.hid (P_a.out.below ha)
  replace P_b := Lib.hid (P_b.out.below ha)
  replace I_i := Lib.hid (I_i.out.below ha)
  replace BB := Lib.hid (below3 BB.out ha)
  have I_l := Lib.hid (ho.ints)
  clear ha hb ho
  clear P_c P_a P_b I_i I_l K_c K_a K_b
  go_wp2
  go_ret
  exact ⟨rfl, BB.out⟩

set_option maxRecDepth 100000 in
set_option maxHeartbeats 4000000 in
theorem lback_ok_y (A B D : Option Addr) (a b d : Nat) (next head tail : List Int) (qs : List (List Int)) (list node tu : Int) (N1 H1 T1 : List Int) (zs : List Int) (N2 H2 T2 : List Int) (w : World) (hf : fewB next.length head.length tail.length = true) (hp : Chn w A next.length B head.length D tail.length next head tail) (r : Rep next head tail qs)
    (cp : ∀ (A B D : Option Addr) (n a m b k d : Nat) (w : World), Chn w A n B m D k next head tail → Calls Try.prog 12 #[.agg #[.slice A n a, .slice B m b, .slice D k d], .int .i64 list, .int .i64 node] w (NewCE N1 H1 T1 0 w)) (cc : ∀ (A B D : Option Addr) (n a m b k d : Nat) (w : World), Chn w A n B m D k N1 H1 T1 → Calls Try.prog 16 #[.agg #[.slice A n a, .slice B m b, .slice D k d], .int .i64 node] w (NewCE next head tail 0 w)) (cw : ∀ (A B D : Option Addr) (n a m b k d : Nat) (w : World), Chn w A n B m D k next head tail → Calls Try.prog 23 #[.agg #[.slice A n a, .slice B m b, .slice D k d], .int .i64 tu] w (RetIE [] 0 w)) (cl : ∀ (A B D : Option Addr) (n a m b k d : Nat) (w : World), Chn w A n B m D k next head tail → Calls Try.prog 23 #[.agg #[.slice A n a, .slice B m b, .slice D k d], .int .i64 list] w (RetIE zs 0 w)) (hlt : list ≠ tu) (cj : ∀ (A B D : Option Addr) (n a m b k d : Nat) (w : World), Chn w A n B m D k next head tail → Calls Try.prog 18 #[.agg #[.slice A n a, .slice B m b, .slice D k d], .int .i64 list, .int .i64 tu] w (NewCE N2 H2 T2 0 w)) (cz : ∀ (A B D : Option Addr) (n a m b k d : Nat) (w : World), Chn w A n B m D k N2 H2 T2 → Calls Try.prog 23 #[.agg #[.slice A n a, .slice B m b, .slice D k d], .int .i64 tu] w (RetIE zs 0 w)) (ck : ∀ (A B D : Option Addr) (n a m b k d : Nat) (w : World), Chn w A n B m D k N2 H2 T2 → Calls Try.prog 18 #[.agg #[.slice A n a, .slice B m b, .slice D k d], .int .i64 tu, .int .i64 list] w (NewCE next head tail 0 w)) :
    Calls Try.prog 6 #[.agg #[.slice A next.length a, .slice B head.length b, .slice D tail.length d], .int .i64 list, .int .i64 node, .int .i64 tu] w (TrueAns w) := by
  have hb0 := (Below.refl w.heap.size w).alloc (Nat.le_refl _) (.cells #[.slice A next.length a, .slice B head.length b, .slice D tail.length d] 24)
  have BB := Lib.hid hb0
  have K_c := Lib.hid (Bk.new w 24 #[.slice A next.length a, .slice B head.length b, .slice D tail.length d])
  have P_c := Lib.hid (hp.below hb0)
  have HF := Lib.hid hf
  obtain ⟨h1, h2, h3⟩ := fewB_true hf
  have hn : next.length ≤ 9223372036854775807 := by omega
  have hm : head.length ≤ 9223372036854775807 := by omega
  have hk : tail.length ≤ 9223372036854775807 := by omega
  have CP := Lib.hid cp
  have CW := Lib.hid cw
  have CL := Lib.hid cl
  have CC := Lib.hid cc
  have CJ := Lib.hid cj
  have CZ := Lib.hid cz
  have CK := Lib.hid ck
  have R := Lib.hid r
  have tl : (list == tu) = false := by simp [hlt]
  clear hp hf hb0 h1 h2 h3 r cp cw cl cc cj cz ck  hlt
  go_enter Try.func6, Try.ntmps6
  go_wp2_with fail
  refine (live_any _).mono ?_
  rintro e w1 ⟨rfl, hb⟩
  have ha := hb
  replace K_c := Lib.hid (K_c.out.below ha K_c.out.lt)
  replace P_c := Lib.hid (P_c.out.below ha)
  replace BB := Lib.hid (below3 BB.out ha)
  clear ha hb
  have a_c := K_c.out.e0
  have b_c := K_c.out.e1
  have c_c := K_c.out.e2
  go_wp2_with fail
  refine (few_any A B D next.length a head.length b tail.length d _ hn hm hk).mono ?_
  rw [HF.out]
  rintro e w2 ⟨rfl, hb⟩
  clear a_c b_c c_c
  have ha := hb
  replace K_c := Lib.hid (K_c.out.below ha K_c.out.lt)
  replace P_c := Lib.hid (P_c.out.below ha)
  replace BB := Lib.hid (below3 BB.out ha)
  clear ha hb
  have a_c := K_c.out.e0
  have b_c := K_c.out.e1
  have c_c := K_c.out.e2
  go_wp2_with fail
  refine (check_yes A B D next.length a head.length b tail.length d next head tail qs R.out _ P_c.out).mono ?_
  rintro e w3 ⟨rfl, hb⟩
  clear a_c b_c c_c
  have ha := hb
  replace K_c := Lib.hid (K_c.out.below ha K_c.out.lt)
  replace P_c := Lib.hid (P_c.out.below ha)
  replace BB := Lib.hid (below3 BB.out ha)
  clear ha hb
  have a_c := K_c.out.e0
  have b_c := K_c.out.e1
  have c_c := K_c.out.e2
  go_wp2_with fail
  refine (CP.out A B D next.length a head.length b tail.length d _ P_c.out).mono ?_
  rintro e w4 ⟨Ap, ap, Bp, bp, Dp, dp, rfl, ho, hb⟩
  clear a_c b_c c_c
  have ha := hb.alloc hb.size (.cells #[.slice Ap N1.length ap, .slice Bp H1.length bp, .slice Dp T1.length dp] 24)
  have han := (Below.refl w4.heap.size w4).alloc (Nat.le_refl _) (.cells #[.slice Ap N1.length ap, .slice Bp H1.length bp, .slice Dp T1.length dp] 24)
  replace K_c := Lib.hid (K_c.out.below ha K_c.out.lt)
  replace P_c := Lib.hid (P_c.out.below ha)
  replace BB := Lib.hid (below3 BB.out ha)
  have P_a := Lib.hid ((ho.c.chn).below han)
  have K_a := Lib.hid (Bk.new w4 24 #[.slice Ap N1.length ap, .slice Bp H1.length bp, .slice Dp T1.length dp])
  clear ha hb han ho
  have a_a := K_a.out.e0
  have b_a := K_a.out.e1
  have c_a := K_a.out.e2
  go_wp2_with fail
  refine (CC.out Ap Bp Dp N1.length ap H1.length bp T1.length dp _ P_a.out).mono ?_
  rintro e w5 ⟨Aq, aq, Bq, bq, Dq, dq, rfl, ho, hb⟩
  clear a_a b_a c_a
  have ha := hb.alloc hb.size (.cells #[.slice Aq next.length aq, .slice Bq head.length bq, .slice Dq tail.length dq] 24)
  have han := (Below.refl w5.heap.size w5).alloc (Nat.le_refl _) (.cells #[.slice Aq next.length aq, .slice Bq head.length bq, .slice Dq tail.length dq] 24)
  replace K_c := Lib.hid (K_c.out.below ha K_c.out.lt)
  replace K_a := Lib.hid (K_a.out.below ha K_a.out.lt)
  replace P_c := Lib.hid (P_c.out.below ha)
  replace P_a := Lib.hid (P_a.out.below ha)
  replace BB := Lib.hid (below3 BB.out ha)
  have P_b := Lib.hid ((ho.c.chn).below han)
  have K_b := Lib.hid (Bk.new w5 24 #[.slice Aq next.length aq, .slice Bq head.length bq, .slice Dq tail.length dq])
  clear ha hb han ho
  have a_b := K_b.out.e0
  have b_b := K_b.out.e1
  have c_b := K_b.out.e2
  have a_c := K_c.out.e0
  have b_c := K_c.out.e1
  have c_c := K_c.out.e2
  go_wp2_with fail
  refine (same_yes Aq Bq Dq A B D next.length aq head.length bq tail.length dq a b d next head tail _ P_b.out P_c.out).mono ?_
  rintro e w6 ⟨rfl, hb⟩
  clear a_b b_b c_b a_c b_c c_c
  have ha := hb
  replace K_c := Lib.hid (K_c.out.below ha K_c.out.lt)
  replace K_a := Lib.hid (K_a.out.below ha K_a.out.lt)
  replace K_b := Lib.hid (K_b.out.below ha K_b.out.lt)
  replace P_c := Lib.hid (P_c.out.below ha)
  replace P_a := Lib.hid (P_a.out.below ha)
  replace P_b := Lib.hid (P_b.out.below ha)
  replace BB := Lib.hid (below3 BB.out ha)
  clear ha hb
  have a_c := K_c.out.e0
  have b_c := K_c.out.e1
  have c_c := K_c.out.e2
  go_wp2_with fail
  refine (CW.out A B D next.length a head.length b tail.length d _ P_c.out).mono ?_
  rintro e w7 ⟨Ai, ai, rfl, ho, hb⟩
  clear a_c b_c c_c
  have ha := hb
  replace K_c := Lib.hid (K_c.out.below ha K_c.out.lt)
  replace K_a := Lib.hid (K_a.out.below ha K_a.out.lt)
  replace K_b := Lib.hid (K_b.out.below ha K_b.out.lt)
  replace P_c := Lib.hid (P_c.out.below ha)
  replace P_a := Lib.hid (P_a.out.below ha)
  replace P_b := Lib.hid (P_b.out.below ha)
  replace BB := Lib.hid (below3 BB.out ha)
  have I_i := Lib.hid (ho.ints)
  clear ha hb ho
  have a_c := K_c.out.e0
  have b_c := K_c.out.e1
  have c_c := K_c.out.e2
  go_wp2_with fail
  refine (CL.out A B D next.length a head.length b tail.length d _ P_c.out).mono ?_
  rintro e w8 ⟨Al, al, rfl, ho, hb⟩
  clear a_c b_c c_c
  have ha := hb
  replace K_c := Lib.hid (K_c.out.below ha K_c.out.lt)
  replace K_a := Lib.hid (K_a.out.below ha K_a.out.lt)
  replace K_b := Lib.hid (K_b.out.below ha K_b.out.lt)
  replace P_c := Lib.hid (P_c.out.below ha)
  replace P_a := Lib.hid (P_a.out.below ha)
  replace P_b := Lib.hid (P_b.out.below ha)
  replace I_i := Lib.hid (I_i.out.below ha)
  replace BB := Lib.hid (below3 BB.out ha)
  have I_l := Lib.hid (ho.ints)
  clear ha hb ho
  have a_c := K_c.out.e0
  have b_c := K_c.out.e1
  have c_c := K_c.out.e2
  go_wp2_with fail
  refine (CJ.out A B D next.length a head.length b tail.length d _ P_c.out).mono ?_
  rintro e w9 ⟨Aj, aj, Bj, bj, Dj, dj, rfl, ho, hb⟩
  clear a_c b_c c_c
  have ha := hb.alloc hb.size (.cells #[.slice Aj N2.length aj, .slice Bj H2.length bj, .slice Dj T2.length dj] 24)
  have han := (Below.refl w9.heap.size w9).alloc (Nat.le_refl _) (.cells #[.slice Aj N2.length aj, .slice Bj H2.length bj, .slice Dj T2.length dj] 24)
  replace K_c := Lib.hid (K_c.out.below ha K_c.out.lt)
  replace K_a := Lib.hid (K_a.out.below ha K_a.out.lt)
  replace K_b := Lib.hid (K_b.out.below ha K_b.out.lt)
  replace P_c := Lib.hid (P_c.out.below ha)
  replace P_a := Lib.hid (P_a.out.below ha)
  replace P_b := Lib.hid (P_b.out.below ha)
  replace I_i := Lib.hid (I_i.out.below ha)
  replace I_l := Lib.hid (I_l.out.below ha)
  replace BB := Lib.hid (below3 BB.out ha)
  have P_j := Lib.hid ((ho.c.chn).below han)
  have K_j := Lib.hid (Bk.new w9 24 #[.slice Aj N2.length aj, .slice Bj H2.length bj, .slice Dj T2.length dj])
  clear ha hb han ho
  have a_j := K_j.out.e0
  have b_j := K_j.out.e1
  have c_j := K_j.out.e2
  go_wp2_with fail
  refine (CZ.out Aj Bj Dj N2.length aj H2.length bj T2.length dj _ P_j.out).mono ?_
  rintro e w10 ⟨An, an, rfl, ho, hb⟩
  clear a_j b_j c_j
  have ha := hb
  replace K_c := Lib.hid (K_c.out.below ha K_c.out.lt)
  replace K_a := Lib.hid (K_a.out.below ha K_a.out.lt)
  replace K_b := Lib.hid (K_b.out.below ha K_b.out.lt)
  replace K_j := Lib.hid (K_j.out.below ha K_j.out.lt)
  replace P_c := Lib.hid (P_c.out.below ha)
  replace P_a := Lib.hid (P_a.out.below ha)
  replace P_b := Lib.hid (P_b.out.below ha)
  replace I_i := Lib.hid (I_i.out.below ha)
  replace I_l := Lib.hid (I_l.out.below ha)
  replace P_j := Lib.hid (P_j.out.below ha)
  replace BB := Lib.hid (below3 BB.out ha)
  have I_n := Lib.hid (ho.ints)
  clear ha hb ho
  have a_j := K_j.out.e0
  have b_j := K_j.out.e1
  have c_j := K_j.out.e2
  go_wp2_with fail
  refine (CK.out Aj Bj Dj N2.length aj H2.length bj T2.length dj _ P_j.out).mono ?_
  rintro e w11 ⟨Ar, ar, Br, br, Dr, dr, rfl, ho, hb⟩
  clear a_j b_j c_j
  have ha := hb.alloc hb.size (.cells #[.slice Ar next.length ar, .slice Br head.length br, .slice Dr tail.length dr] 24)
  have han := (Below.refl w11.heap.size w11).alloc (Nat.le_refl _) (.cells #[.slice Ar next.length ar, .slice Br head.length br, .slice Dr tail.length dr] 24)
  replace K_c := Lib.hid (K_c.out.below ha K_c.out.lt)
  replace K_a := Lib.hid (K_a.out.below ha K_a.out.lt)
  replace K_b := Lib.hid (K_b.out.below ha K_b.out.lt)
  replace K_j := Lib.hid (K_j.out.below ha K_j.out.lt)
  replace P_c := Lib.hid (P_c.out.below ha)
  replace P_a := Lib.hid (P_a.out.below ha)
  replace P_b := Lib.hid (P_b.out.below ha)
  replace I_i := Lib.hid (I_i.out.below ha)
  replace I_l := Lib.hid (I_l.out.below ha)
  replace P_j := Lib.hid (P_j.out.below ha)
  replace I_n := Lib.hid (I_n.out.below ha)
  replace BB := Lib.hid (below3 BB.out ha)
  have P_k := Lib.hid ((ho.c.chn).below han)
  have K_k := Lib.hid (Bk.new w11 24 #[.slice Ar next.length ar, .slice Br head.length br, .slice Dr tail.length dr])
  clear ha hb han ho
  go_wp2_with fail
  refine (rsameInts_yes An Al zs.length an al zs _ I_n.out I_l.out).mono ?_
  rintro e w12 ⟨rfl, hb⟩
  have ha := hb
  replace K_c := Lib.hid (K_c.out.below ha K_c.out.lt)
  replace K_a := Lib.hid (K_a.out.below ha K_a.out.lt)
  replace K_b := Lib.hid (K_b.out.below ha K_b.out.lt)
  replace K_j := Lib.hid (K_j.out.below ha K_j.out.lt)
  replace K_k := Lib.hid (K_k.out.below ha K_k.out.lt)
  replace P_c := Lib.hid (P_c.out.below ha)
  replace P_a := Lib.hid (P_a.out.below ha)
  replace P_b := Lib.hid (P_b.out.below ha)
  replace I_i := Lib.hid (I_i.out.below ha)
  replace I_l := Lib.hid (I_l.out.below ha)
  replace P_j := Lib.hid (P_j.out.below ha)
  replace I_n := Lib.hid (I_n.out.below ha)
  replace P_k := Lib.hid (P_k.out.below ha)
  replace BB := Lib.hid (below3 BB.out ha)
  clear ha hb
  have a_k := K_k.out.e0
  have b_k := K_k.out.e1
  have c_k := K_k.out.e2
  have a_c := K_c.out.e0
  have b_c := K_c.out.e1
  have c_c := K_c.out.e2
  go_wp2_with fail
  refine (same_yes Ar Br Dr A B D next.length ar head.length br tail.length dr a b d next head tail _ P_k.out P_c.out).mono ?_
  rintro e w13 ⟨rfl, hb⟩
  clear a_k b_k c_k a_c b_c c_c
  have ha := hb
  replace K_c := Lib.hid (K_c.out.below ha K_c.out.lt)
  replace K_a := Lib.hid (K_a.out.below ha K_a.out.lt)
  replace K_b := Lib.hid (K_b.out.below ha K_b.out.lt)
  replace K_j := Lib.hid (K_j.out.below ha K_j.out.lt)
  replace K_k := Lib.hid (K_k.out.below ha K_k.out.lt)
  replace P_c := Lib.hid (P_c.out.below ha)
  replace P_a := Lib.hid (P_a.out.below ha)
  replace P_b := Lib.hid (P_b.out.below ha)
  replace I_i := Lib.hid (I_i.out.below ha)
  replace I_l := Lib.hid (I_l.out.below ha)
  replace P_j := Lib.hid (P_j.out.below ha)
  replace I_n := Lib.hid (I_n.out.below ha)
  replace P_k := Lib.hid (P_k.out.below ha)
  replace BB := Lib.hid (below3 BB.out ha)
  clear ha hb
  go_wp2
  go_ret
  exact ⟨rfl, BB.out⟩

set_option maxRecDepth 100000 in
set_option maxHeartbeats 4000000 in
theorem lback_no_f (A B D : Option Addr) (a b d : Nat) (next head tail : List Int) (qs : List (List Int)) (list node tu : Int) (N1 H1 T1 : List Int) (e1 : Int) (into zs : List Int) (ef eg : Int) (w : World) (hf : fewB next.length head.length tail.length = true) (hp : Chn w A next.length B head.length D tail.length next head tail) (r : Rep next head tail qs)
    (cp : ∀ (A B D : Option Addr) (n a m b k d : Nat) (w : World), Chn w A n B m D k next head tail → Calls Try.prog 12 #[.agg #[.slice A n a, .slice B m b, .slice D k d], .int .i64 list, .int .i64 node] w (NewCE N1 H1 T1 e1 w)) (he : e1 ≠ 0) (cw : ∀ (A B D : Option Addr) (n a m b k d : Nat) (w : World), Chn w A n B m D k next head tail → Calls Try.prog 23 #[.agg #[.slice A n a, .slice B m b, .slice D k d], .int .i64 tu] w (RetIE into ef w)) (cl : ∀ (A B D : Option Addr) (n a m b k d : Nat) (w : World), Chn w A n B m D k next head tail → Calls Try.prog 23 #[.agg #[.slice A n a, .slice B m b, .slice D k d], .int .i64 list] w (RetIE zs eg w)) (hef : ef ≠ 0) :
    Calls Try.prog 6 #[.agg #[.slice A next.length a, .slice B head.length b, .slice D tail.length d], .int .i64 list, .int .i64 node, .int .i64 tu] w (TrueAns w) := by
  have hb0 := (Below.refl w.heap.size w).alloc (Nat.le_refl _) (.cells #[.slice A next.length a, .slice B head.length b, .slice D tail.length d] 24)
  have BB := Lib.hid hb0
  have K_c := Lib.hid (Bk.new w 24 #[.slice A next.length a, .slice B head.length b, .slice D tail.length d])
  have P_c := Lib.hid (hp.below hb0)
  have HF := Lib.hid hf
  obtain ⟨h1, h2, h3⟩ := fewB_true hf
  have hn : next.length ≤ 9223372036854775807 := by omega
  have hm : head.length ≤ 9223372036854775807 := by omega
  have hk : tail.length ≤ 9223372036854775807 := by omega
  have CP := Lib.hid cp
  have CW := Lib.hid cw
  have CL := Lib.hid cl
  have R := Lib.hid r
  have te : (e1 == 0) = false := by simp [he]
  have tf : (ef != 0) = true := by simp [hef]
  clear hp hf hb0 h1 h2 h3 r cp cw cl he hef
  go_enter Try.func6, Try.ntmps6
  go_wp2_with fail
  refine (live_any _).mono ?_
  rintro e w1 ⟨rfl, hb⟩
  have ha := hb
  replace K_c := Lib.hid (K_c.out.below ha K_c.out.lt)
  replace P_c := Lib.hid (P_c.out.below ha)
  replace BB := Lib.hid (below3 BB.out ha)
  clear ha hb
  have a_c := K_c.out.e0
  have b_c := K_c.out.e1
  have c_c := K_c.out.e2
  go_wp2_with fail
  refine (few_any A B D next.length a head.length b tail.length d _ hn hm hk).mono ?_
  rw [HF.out]
  rintro e w2 ⟨rfl, hb⟩
  clear a_c b_c c_c
  have ha := hb
  replace K_c := Lib.hid (K_c.out.below ha K_c.out.lt)
  replace P_c := Lib.hid (P_c.out.below ha)
  replace BB := Lib.hid (below3 BB.out ha)
  clear ha hb
  have a_c := K_c.out.e0
  have b_c := K_c.out.e1
  have c_c := K_c.out.e2
  go_wp2_with fail
  refine (check_yes A B D next.length a head.length b tail.length d next head tail qs R.out _ P_c.out).mono ?_
  rintro e w3 ⟨rfl, hb⟩
  clear a_c b_c c_c
  have ha := hb
  replace K_c := Lib.hid (K_c.out.below ha K_c.out.lt)
  replace P_c := Lib.hid (P_c.out.below ha)
  replace BB := Lib.hid (below3 BB.out ha)
  clear ha hb
  have a_c := K_c.out.e0
  have b_c := K_c.out.e1
  have c_c := K_c.out.e2
  go_wp2_with fail
  refine (CP.out A B D next.length a head.length b tail.length d _ P_c.out).mono ?_
  rintro e w4 ⟨Ap, ap, Bp, bp, Dp, dp, rfl, ho, hb⟩
  clear a_c b_c c_c
  have ha := hb.alloc hb.size (.cells #[.slice Ap N1.length ap, .slice Bp H1.length bp, .slice Dp T1.length dp] 24)
  have han := (Below.refl w4.heap.size w4).alloc (Nat.le_refl _) (.cells #[.slice Ap N1.length ap, .slice Bp H1.length bp, .slice Dp T1.length dp] 24)
  replace K_c := Lib.hid (K_c.out.below ha K_c.out.lt)
  replace P_c := Lib.hid (P_c.out.below ha)
  replace BB := Lib.hid (below3 BB.out ha)
  have P_a := Lib.hid ((ho.c.chn).below han)
  have K_a := Lib.hid (Bk.new w4 24 #[.slice Ap N1.length ap, .slice Bp H1.length bp, .slice Dp T1.length dp])
  clear ha hb han ho
  have a_c := K_c.out.e0
  have b_c := K_c.out.e1
  have c_c := K_c.out.e2
  go_wp2_with fail
  refine (CW.out A B D next.length a head.length b tail.length d _ P_c.out).mono ?_
  rintro e w5 ⟨Ai, ai, rfl, ho, hb⟩
  clear a_c b_c c_c
  have ha := hb
  replace K_c := Lib.hid (K_c.out.below ha K_c.out.lt)
  replace K_a := Lib.hid (K_a.out.below ha K_a.out.lt)
  replace P_c := Lib.hid (P_c.out.below ha)
  replace P_a := Lib.hid (P_a.out.below ha)
  replace BB := Lib.hid (below3 BB.out ha)
  have I_i := Lib.hid (ho.ints)
  clear ha hb ho
  have a_c := K_c.out.e0
  have b_c := K_c.out.e1
  have c_c := K_c.out.e2
  go_wp2_with fail
  refine (CL.out A B D next.length a head.length b tail.length d _ P_c.out).mono ?_
  rintro e w6 ⟨Al, al, rfl, ho, hb⟩
  clear a_c b_c c_c
  have ha := hb
  replace K_c := Lib.hid (K_c.out.below ha K_c.out.lt)
  replace K_a := Lib.hid (K_a.out.below ha K_a.out.lt)
  replace P_c := Lib.hid (P_c.out.below ha)
  replace P_a := Lib.hid (P_a.out.below ha)
  replace I_i := Lib.hid (I_i.out.below ha)
  replace BB := Lib.hid (below3 BB.out ha)
  have I_l := Lib.hid (ho.ints)
  clear ha hb ho
  clear P_c P_a I_i I_l K_c K_a
  go_wp2
  go_ret
  exact ⟨rfl, BB.out⟩

set_option maxRecDepth 100000 in
set_option maxHeartbeats 4000000 in
theorem lback_no_g (A B D : Option Addr) (a b d : Nat) (next head tail : List Int) (qs : List (List Int)) (list node tu : Int) (N1 H1 T1 : List Int) (e1 : Int) (into zs : List Int) (eg : Int) (w : World) (hf : fewB next.length head.length tail.length = true) (hp : Chn w A next.length B head.length D tail.length next head tail) (r : Rep next head tail qs)
    (cp : ∀ (A B D : Option Addr) (n a m b k d : Nat) (w : World), Chn w A n B m D k next head tail → Calls Try.prog 12 #[.agg #[.slice A n a, .slice B m b, .slice D k d], .int .i64 list, .int .i64 node] w (NewCE N1 H1 T1 e1 w)) (he : e1 ≠ 0) (cw : ∀ (A B D : Option Addr) (n a m b k d : Nat) (w : World), Chn w A n B m D k next head tail → Calls Try.prog 23 #[.agg #[.slice A n a, .slice B m b, .slice D k d], .int .i64 tu] w (RetIE into 0 w)) (cl : ∀ (A B D : Option Addr) (n a m b k d : Nat) (w : World), Chn w A n B m D k next head tail → Calls Try.prog 23 #[.agg #[.slice A n a, .slice B m b, .slice D k d], .int .i64 list] w (RetIE zs eg w)) (heg : eg ≠ 0) :
    Calls Try.prog 6 #[.agg #[.slice A next.length a, .slice B head.length b, .slice D tail.length d], .int .i64 list, .int .i64 node, .int .i64 tu] w (TrueAns w) := by
  have hb0 := (Below.refl w.heap.size w).alloc (Nat.le_refl _) (.cells #[.slice A next.length a, .slice B head.length b, .slice D tail.length d] 24)
  have BB := Lib.hid hb0
  have K_c := Lib.hid (Bk.new w 24 #[.slice A next.length a, .slice B head.length b, .slice D tail.length d])
  have P_c := Lib.hid (hp.below hb0)
  have HF := Lib.hid hf
  obtain ⟨h1, h2, h3⟩ := fewB_true hf
  have hn : next.length ≤ 9223372036854775807 := by omega
  have hm : head.length ≤ 9223372036854775807 := by omega
  have hk : tail.length ≤ 9223372036854775807 := by omega
  have CP := Lib.hid cp
  have CW := Lib.hid cw
  have CL := Lib.hid cl
  have R := Lib.hid r
  have te : (e1 == 0) = false := by simp [he]
  have tg : (eg != 0) = true := by simp [heg]
  clear hp hf hb0 h1 h2 h3 r cp cw cl he heg
  go_enter Try.func6, Try.ntmps6
  go_wp2_with fail
  refine (live_any _).mono ?_
  rintro e w1 ⟨rfl, hb⟩
  have ha := hb
  replace K_c := Lib.hid (K_c.out.below ha K_c.out.lt)
  replace P_c := Lib.hid (P_c.out.below ha)
  replace BB := Lib.hid (below3 BB.out ha)
  clear ha hb
  have a_c := K_c.out.e0
  have b_c := K_c.out.e1
  have c_c := K_c.out.e2
  go_wp2_with fail
  refine (few_any A B D next.length a head.length b tail.length d _ hn hm hk).mono ?_
  rw [HF.out]
  rintro e w2 ⟨rfl, hb⟩
  clear a_c b_c c_c
  have ha := hb
  replace K_c := Lib.hid (K_c.out.below ha K_c.out.lt)
  replace P_c := Lib.hid (P_c.out.below ha)
  replace BB := Lib.hid (below3 BB.out ha)
  clear ha hb
  have a_c := K_c.out.e0
  have b_c := K_c.out.e1
  have c_c := K_c.out.e2
  go_wp2_with fail
  refine (check_yes A B D next.length a head.length b tail.length d next head tail qs R.out _ P_c.out).mono ?_
  rintro e w3 ⟨rfl, hb⟩
  clear a_c b_c c_c
  have ha := hb
  replace K_c := Lib.hid (K_c.out.below ha K_c.out.lt)
  replace P_c := Lib.hid (P_c.out.below ha)
  replace BB := Lib.hid (below3 BB.out ha)
  clear ha hb
  have a_c := K_c.out.e0
  have b_c := K_c.out.e1
  have c_c := K_c.out.e2
  go_wp2_with fail
  refine (CP.out A B D next.length a head.length b tail.length d _ P_c.out).mono ?_
  rintro e w4 ⟨Ap, ap, Bp, bp, Dp, dp, rfl, ho, hb⟩
  clear a_c b_c c_c
  have ha := hb.alloc hb.size (.cells #[.slice Ap N1.length ap, .slice Bp H1.length bp, .slice Dp T1.length dp] 24)
  have han := (Below.refl w4.heap.size w4).alloc (Nat.le_refl _) (.cells #[.slice Ap N1.length ap, .slice Bp H1.length bp, .slice Dp T1.length dp] 24)
  replace K_c := Lib.hid (K_c.out.below ha K_c.out.lt)
  replace P_c := Lib.hid (P_c.out.below ha)
  replace BB := Lib.hid (below3 BB.out ha)
  have P_a := Lib.hid ((ho.c.chn).below han)
  have K_a := Lib.hid (Bk.new w4 24 #[.slice Ap N1.length ap, .slice Bp H1.length bp, .slice Dp T1.length dp])
  clear ha hb han ho
  have a_c := K_c.out.e0
  have b_c := K_c.out.e1
  have c_c := K_c.out.e2
  go_wp2_with fail
  refine (CW.out A B D next.length a head.length b tail.length d _ P_c.out).mono ?_
  rintro e w5 ⟨Ai, ai, rfl, ho, hb⟩
  clear a_c b_c c_c
  have ha := hb
  replace K_c := Lib.hid (K_c.out.below ha K_c.out.lt)
  replace K_a := Lib.hid (K_a.out.below ha K_a.out.lt)
  replace P_c := Lib.hid (P_c.out.below ha)
  replace P_a := Lib.hid (P_a.out.below ha)
  replace BB := Lib.hid (below3 BB.out ha)
  have I_i := Lib.hid (ho.ints)
  clear ha hb ho
  have a_c := K_c.out.e0
  have b_c := K_c.out.e1
  have c_c := K_c.out.e2
  go_wp2_with fail
  refine (CL.out A B D next.length a head.length b tail.length d _ P_c.out).mono ?_
  rintro e w6 ⟨Al, al, rfl, ho, hb⟩
  clear a_c b_c c_c
  have ha := hb
  replace K_c := Lib.hid (K_c.out.below ha K_c.out.lt)
  replace K_a := Lib.hid (K_a.out.below ha K_a.out.lt)
  replace P_c := Lib.hid (P_c.out.below ha)
  replace P_a := Lib.hid (P_a.out.below ha)
  replace I_i := Lib.hid (I_i.out.below ha)
  replace BB := Lib.hid (below3 BB.out ha)
  have I_l := Lib.hid (ho.ints)
  clear ha hb ho
  clear P_c P_a I_i I_l K_c K_a
  go_wp2
  go_ret
  exact ⟨rfl, BB.out⟩

set_option maxRecDepth 100000 in
set_option maxHeartbeats 4000000 in
theorem lback_no_i (A B D : Option Addr) (a b d : Nat) (next head tail : List Int) (qs : List (List Int)) (list node tu : Int) (N1 H1 T1 : List Int) (e1 : Int) (into zs : List Int) (w : World) (hf : fewB next.length head.length tail.length = true) (hp : Chn w A next.length B head.length D tail.length next head tail) (r : Rep next head tail qs)
    (cp : ∀ (A B D : Option Addr) (n a m b k d : Nat) (w : World), Chn w A n B m D k next head tail → Calls Try.prog 12 #[.agg #[.slice A n a, .slice B m b, .slice D k d], .int .i64 list, .int .i64 node] w (NewCE N1 H1 T1 e1 w)) (he : e1 ≠ 0) (cw : ∀ (A B D : Option Addr) (n a m b k d : Nat) (w : World), Chn w A n B m D k next head tail → Calls Try.prog 23 #[.agg #[.slice A n a, .slice B m b, .slice D k d], .int .i64 tu] w (RetIE into 0 w)) (cl : ∀ (A B D : Option Addr) (n a m b k d : Nat) (w : World), Chn w A n B m D k next head tail → Calls Try.prog 23 #[.agg #[.slice A n a, .slice B m b, .slice D k d], .int .i64 list] w (RetIE zs 0 w)) (hin : 0 < into.length) :
    Calls Try.prog 6 #[.agg #[.slice A next.length a, .slice B head.length b, .slice D tail.length d], .int .i64 list, .int .i64 node, .int .i64 tu] w (TrueAns w) := by
  have hb0 := (Below.refl w.heap.size w).alloc (Nat.le_refl _) (.cells #[.slice A next.length a, .slice B head.length b, .slice D tail.length d] 24)
  have BB := Lib.hid hb0
  have K_c := Lib.hid (Bk.new w 24 #[.slice A next.length a, .slice B head.length b, .slice D tail.length d])
  have P_c := Lib.hid (hp.below hb0)
  have HF := Lib.hid hf
  obtain ⟨h1, h2, h3⟩ := fewB_true hf
  have hn : next.length ≤ 9223372036854775807 := by omega
  have hm : head.length ≤ 9223372036854775807 := by omega
  have hk : tail.length ≤ 9223372036854775807 := by omega
  have CP := Lib.hid cp
  have CW := Lib.hid cw
  have CL := Lib.hid cl
  have R := Lib.hid r
  have te : (e1 == 0) = false := by simp [he]
  clear hp hf hb0 h1 h2 h3 r cp cw cl he 
  go_enter Try.func6, Try.ntmps6
  go_wp2_with fail
  refine (live_any _).mono ?_
  rintro e w1 ⟨rfl, hb⟩
  have ha := hb
  replace K_c := Lib.hid (K_c.out.below ha K_c.out.lt)
  replace P_c := Lib.hid (P_c.out.below ha)
  replace BB := Lib.hid (below3 BB.out ha)
  clear ha hb
  have a_c := K_c.out.e0
  have b_c := K_c.out.e1
  have c_c := K_c.out.e2
  go_wp2_with fail
  refine (few_any A B D next.length a head.length b tail.length d _ hn hm hk).mono ?_
  rw [HF.out]
  rintro e w2 ⟨rfl, hb⟩
  clear a_c b_c c_c
  have ha := hb
  replace K_c := Lib.hid (K_c.out.below ha K_c.out.lt)
  replace P_c := Lib.hid (P_c.out.below ha)
  replace BB := Lib.hid (below3 BB.out ha)
  clear ha hb
  have a_c := K_c.out.e0
  have b_c := K_c.out.e1
  have c_c := K_c.out.e2
  go_wp2_with fail
  refine (check_yes A B D next.length a head.length b tail.length d next head tail qs R.out _ P_c.out).mono ?_
  rintro e w3 ⟨rfl, hb⟩
  clear a_c b_c c_c
  have ha := hb
  replace K_c := Lib.hid (K_c.out.below ha K_c.out.lt)
  replace P_c := Lib.hid (P_c.out.below ha)
  replace BB := Lib.hid (below3 BB.out ha)
  clear ha hb
  have a_c := K_c.out.e0
  have b_c := K_c.out.e1
  have c_c := K_c.out.e2
  go_wp2_with fail
  refine (CP.out A B D next.length a head.length b tail.length d _ P_c.out).mono ?_
  rintro e w4 ⟨Ap, ap, Bp, bp, Dp, dp, rfl, ho, hb⟩
  clear a_c b_c c_c
  have ha := hb.alloc hb.size (.cells #[.slice Ap N1.length ap, .slice Bp H1.length bp, .slice Dp T1.length dp] 24)
  have han := (Below.refl w4.heap.size w4).alloc (Nat.le_refl _) (.cells #[.slice Ap N1.length ap, .slice Bp H1.length bp, .slice Dp T1.length dp] 24)
  replace K_c := Lib.hid (K_c.out.below ha K_c.out.lt)
  replace P_c := Lib.hid (P_c.out.below ha)
  replace BB := Lib.hid (below3 BB.out ha)
  have P_a := Lib.hid ((ho.c.chn).below han)
  have K_a := Lib.hid (Bk.new w4 24 #[.slice Ap N1.length ap, .slice Bp H1.length bp, .slice Dp T1.length dp])
  clear ha hb han ho
  have a_c := K_c.out.e0
  have b_c := K_c.out.e1
  have c_c := K_c.out.e2
  go_wp2_with fail
  refine (CW.out A B D next.length a head.length b tail.length d _ P_c.out).mono ?_
  rintro e w5 ⟨Ai, ai, rfl, ho, hb⟩
  clear a_c b_c c_c
  have ha := hb
  replace K_c := Lib.hid (K_c.out.below ha K_c.out.lt)
  replace K_a := Lib.hid (K_a.out.below ha K_a.out.lt)
  replace P_c := Lib.hid (P_c.out.below ha)
  replace P_a := Lib.hid (P_a.out.below ha)
  replace BB := Lib.hid (below3 BB.out ha)
  have I_i := Lib.hid (ho.ints)
  clear ha hb ho
  have a_c := K_c.out.e0
  have b_c := K_c.out.e1
  have c_c := K_c.out.e2
  go_wp2_with fail
  refine (CL.out A B D next.length a head.length b tail.length d _ P_c.out).mono ?_
  rintro e w6 ⟨Al, al, rfl, ho, hb⟩
  clear a_c b_c c_c
  have ha := hb
  replace K_c := Lib.hid (K_c.out.below ha K_c.out.lt)
  replace K_a := Lib.hid (K_a.out.below ha K_a.out.lt)
  replace P_c := Lib.hid (P_c.out.below ha)
  replace P_a := Lib.hid (P_a.out.below ha)
  replace I_i := Lib.hid (I_i.out.below ha)
  replace BB := Lib.hid (below3 BB.out ha)
  have I_l := Lib.hid (ho.ints)
  clear ha hb ho
  have hi63 : into.length ≤ 140737488351232 := by have := I_i.out.2.1; omega
  clear P_c P_a I_i I_l K_c K_a
  go_wp2
  go_ret
  exact ⟨rfl, BB.out⟩

set_option maxRecDepth 100000 in
set_option maxHeartbeats 4000000 in
theorem lback_no_s (A B D : Option Addr) (a b d : Nat) (next head tail : List Int) (qs : List (List Int)) (list node tu : Int) (N1 H1 T1 : List Int) (e1 : Int) (zs : List Int) (w : World) (hf : fewB next.length head.length tail.length = true) (hp : Chn w A next.length B head.length D tail.length next head tail) (r : Rep next head tail qs)
    (cp : ∀ (A B D : Option Addr) (n a m b k d : Nat) (w : World), Chn w A n B m D k next head tail → Calls Try.prog 12 #[.agg #[.slice A n a, .slice B m b, .slice D k d], .int .i64 list, .int .i64 node] w (NewCE N1 H1 T1 e1 w)) (he : e1 ≠ 0) (cw : ∀ (A B D : Option Addr) (n a m b k d : Nat) (w : World), Chn w A n B m D k next head tail → Calls Try.prog 23 #[.agg #[.slice A n a, .slice B m b, .slice D k d], .int .i64 tu] w (RetIE [] 0 w)) (cl : ∀ (A B D : Option Addr) (n a m b k d : Nat) (w : World), Chn w A n B m D k next head tail → Calls Try.prog 23 #[.agg #[.slice A n a, .slice B m b, .slice D k d], .int .i64 list] w (RetIE zs 0 w)) (hlt : list = tu) :
    Calls Try.prog 6 #[.agg #[.slice A next.length a, .slice B head.length b, .slice D tail.length d], .int .i64 list, .int .i64 node, .int .i64 tu] w (TrueAns w) := by
  have hb0 := (Below.refl w.heap.size w).alloc (Nat.le_refl _) (.cells #[.slice A next.length a, .slice B head.length b, .slice D tail.length d] 24)
  have BB := Lib.hid hb0
  have K_c := Lib.hid (Bk.new w 24 #[.slice A next.length a, .slice B head.length b, .slice D tail.length d])
  have P_c := Lib.hid (hp.below hb0)
  have HF := Lib.hid hf
  obtain ⟨h1, h2, h3⟩ := fewB_true hf
  have hn : next.length ≤ 9223372036854775807 := by omega
  have hm : head.length ≤ 9223372036854775807 := by omega
  have hk : tail.length ≤ 9223372036854775807 := by omega
  have CP := Lib.hid cp
  have CW := Lib.hid cw
  have CL := Lib.hid cl
  have R := Lib.hid r
  have te : (e1 == 0) = false := by simp [he]
  subst hlt
  have tl : (list == list) = true := by simp
  clear hp hf hb0 h1 h2 h3 r cp cw cl he 
  go_enter Try.func6, Try.ntmps6
  go_wp2_with fail
  refine (live_any _).mono ?_
  rintro e w1 ⟨rfl, hb⟩
  have ha := hb
  replace K_c := Lib.hid (K_c.out.below ha K_c.out.lt)
  replace P_c := Lib.hid (P_c.out.below ha)
  replace BB := Lib.hid (below3 BB.out ha)
  clear ha hb
  have a_c := K_c.out.e0
  have b_c := K_c.out.e1
  have c_c := K_c.out.e2
  go_wp2_with fail
  refine (few_any A B D next.length a head.length b tail.length d _ hn hm hk).mono ?_
  rw [HF.out]
  rintro e w2 ⟨rfl, hb⟩
  clear a_c b_c c_c
  have ha := hb
  replace K_c := Lib.hid (K_c.out.below ha K_c.out.lt)
  replace P_c := Lib.hid (P_c.out.below ha)
  replace BB := Lib.hid (below3 BB.out ha)
  clear ha hb
  have a_c := K_c.out.e0
  have b_c := K_c.out.e1
  have c_c := K_c.out.e2
  go_wp2_with fail
  refine (check_yes A B D next.length a head.length b tail.length d next head tail qs R.out _ P_c.out).mono ?_
  rintro e w3 ⟨rfl, hb⟩
  clear a_c b_c c_c
  have ha := hb
  replace K_c := Lib.hid (K_c.out.below ha K_c.out.lt)
  replace P_c := Lib.hid (P_c.out.below ha)
  replace BB := Lib.hid (below3 BB.out ha)
  clear ha hb
  have a_c := K_c.out.e0
  have b_c := K_c.out.e1
  have c_c := K_c.out.e2
  go_wp2_with fail
  refine (CP.out A B D next.length a head.length b tail.length d _ P_c.out).mono ?_
  rintro e w4 ⟨Ap, ap, Bp, bp, Dp, dp, rfl, ho, hb⟩
  clear a_c b_c c_c
  have ha := hb.alloc hb.size (.cells #[.slice Ap N1.length ap, .slice Bp H1.length bp, .slice Dp T1.length dp] 24)
  have han := (Below.refl w4.heap.size w4).alloc (Nat.le_refl _) (.cells #[.slice Ap N1.length ap, .slice Bp H1.length bp, .slice Dp T1.length dp] 24)
  replace K_c := Lib.hid (K_c.out.below ha K_c.out.lt)
  replace P_c := Lib.hid (P_c.out.below ha)
  replace BB := Lib.hid (below3 BB.out ha)
  have P_a := Lib.hid ((ho.c.chn).below han)
  have K_a := Lib.hid (Bk.new w4 24 #[.slice Ap N1.length ap, .slice Bp H1.length bp, .slice Dp T1.length dp])
  clear ha hb han ho
  have a_c := K_c.out.e0
  have b_c := K_c.out.e1
  have c_c := K_c.out.e2
  go_wp2_with fail
  refine (CW.out A B D next.length a head.length b tail.length d _ P_c.out).mono ?_
  rintro e w5 ⟨Ai, ai, rfl, ho, hb⟩
  clear a_c b_c c_c
  have ha := hb
  replace K_c := Lib.hid (K_c.out.below ha K_c.out.lt)
  replace K_a := Lib.hid (K_a.out.below ha K_a.out.lt)
  replace P_c := Lib.hid (P_c.out.below ha)
  replace P_a := Lib.hid (P_a.out.below ha)
  replace BB := Lib.hid (below3 BB.out ha)
  have I_i := Lib.hid (ho.ints)
  clear ha hb ho
  have a_c := K_c.out.e0
  have b_c := K_c.out.e1
  have c_c := K_c.out.e2
  go_wp2_with fail
  refine (CL.out A B D next.length a head.length b tail.length d _ P_c.out).mono ?_
  rintro e w6 ⟨Al, al, rfl, ho, hb⟩
  clear a_c b_c c_c
  have ha := hb
  replace K_c := Lib.hid (K_c.out.below ha K_c.out.lt)
  replace K_a := Lib.hid (K_a.out.below ha K_a.out.lt)
  replace P_c := Lib.hid (P_c.out.below ha)
  replace P_a := Lib.hid (P_a.out.below ha)
  replace I_i := Lib.hid (I_i.out.below ha)
  replace BB := Lib.hid (below3 BB.out ha)
  have I_l := Lib.hid (ho.ints)
  clear ha hb ho
  clear P_c P_a I_i I_l K_c K_a
  go_wp2
  go_ret
  exact ⟨rfl, BB.out⟩

set_option maxRecDepth 100000 in
set_option maxHeartbeats 4000000 in
theorem lback_no_y (A B D : Option Addr) (a b d : Nat) (next head tail : List Int) (qs : List (List Int)) (list node tu : Int) (N1 H1 T1 : List Int) (e1 : Int) (zs : List Int) (N2 H2 T2 : List Int) (w : World) (hf : fewB next.length head.length tail.length = true) (hp : Chn w A next.length B head.length D tail.length next head tail) (r : Rep next head tail qs)
    (cp : ∀ (A B D : Option Addr) (n a m b k d : Nat) (w : World), Chn w A n B m D k next head tail → Calls Try.prog 12 #[.agg #[.slice A n a, .slice B m b, .slice D k d], .int .i64 list, .int .i64 node] w (NewCE N1 H1 T1 e1 w)) (he : e1 ≠ 0) (cw : ∀ (A B D : Option Addr) (n a m b k d : Nat) (w : World), Chn w A n B m D k next head tail → Calls Try.prog 23 #[.agg #[.slice A n a, .slice B m b, .slice D k d], .int .i64 tu] w (RetIE [] 0 w)) (cl : ∀ (A B D : Option Addr) (n a m b k d : Nat) (w : World), Chn w A n B m D k next head tail → Calls Try.prog 23 #[.agg #[.slice A n a, .slice B m b, .slice D k d], .int .i64 list] w (RetIE zs 0 w)) (hlt : list ≠ tu) (cj : ∀ (A B D : Option Addr) (n a m b k d : Nat) (w : World), Chn w A n B m D k next head tail → Calls Try.prog 18 #[.agg #[.slice A n a, .slice B m b, .slice D k d], .int .i64 list, .int .i64 tu] w (NewCE N2 H2 T2 0 w)) (cz : ∀ (A B D : Option Addr) (n a m b k d : Nat) (w : World), Chn w A n B m D k N2 H2 T2 → Calls Try.prog 23 #[.agg #[.slice A n a, .slice B m b, .slice D k d], .int .i64 tu] w (RetIE zs 0 w)) (ck : ∀ (A B D : Option Addr) (n a m b k d : Nat) (w : World), Chn w A n B m D k N2 H2 T2 → Calls Try.prog 18 #[.agg #[.slice A n a, .slice B m b, .slice D k d], .int .i64 tu, .int .i64 list] w (NewCE next head tail 0 w)) :
    Calls Try.prog 6 #[.agg #[.slice A next.length a, .slice B head.length b, .slice D tail.length d], .int .i64 list, .int .i64 node, .int .i64 tu] w (TrueAns w) := by
  have hb0 := (Below.refl w.heap.size w).alloc (Nat.le_refl _) (.cells #[.slice A next.length a, .slice B head.length b, .slice D tail.length d] 24)
  have BB := Lib.hid hb0
  have K_c := Lib.hid (Bk.new w 24 #[.slice A next.length a, .slice B head.length b, .slice D tail.length d])
  have P_c := Lib.hid (hp.below hb0)
  have HF := Lib.hid hf
  obtain ⟨h1, h2, h3⟩ := fewB_true hf
  have hn : next.length ≤ 9223372036854775807 := by omega
  have hm : head.length ≤ 9223372036854775807 := by omega
  have hk : tail.length ≤ 9223372036854775807 := by omega
  have CP := Lib.hid cp
  have CW := Lib.hid cw
  have CL := Lib.hid cl
  have CJ := Lib.hid cj
  have CZ := Lib.hid cz
  have CK := Lib.hid ck
  have R := Lib.hid r
  have te : (e1 == 0) = false := by simp [he]
  have tl : (list == tu) = false := by simp [hlt]
  clear hp hf hb0 h1 h2 h3 r cp cw cl cj cz ck he hlt
  go_enter Try.func6, Try.ntmps6
  go_wp2_with fail
  refine (live_any _).mono ?_
  rintro e w1 ⟨rfl, hb⟩
  have ha := hb
  replace K_c := Lib.hid (K_c.out.below ha K_c.out.lt)
  replace P_c := Lib.hid (P_c.out.below ha)
  replace BB := Lib.hid (below3 BB.out ha)
  clear ha hb
  have a_c := K_c.out.e0
  have b_c := K_c.out.e1
  have c_c := K_c.out.e2
  go_wp2_with fail
  refine (few_any A B D next.length a head.length b tail.length d _ hn hm hk).mono ?_
  rw [HF.out]
  rintro e w2 ⟨rfl, hb⟩
  clear a_c b_c c_c
  have ha := hb
  replace K_c := Lib.hid (K_c.out.below ha K_c.out.lt)
  replace P_c := Lib.hid (P_c.out.below ha)
  replace BB := Lib.hid (below3 BB.out ha)
  clear ha hb
  have a_c := K_c.out.e0
  have b_c := K_c.out.e1
  have c_c := K_c.out.e2
  go_wp2_with fail
  refine (check_yes A B D next.length a head.length b tail.length d next head tail qs R.out _ P_c.out).mono ?_
  rintro e w3 ⟨rfl, hb⟩
  clear a_c b_c c_c
  have ha := hb
  replace K_c := Lib.hid (K_c.out.below ha K_c.out.lt)
  replace P_c := Lib.hid (P_c.out.below ha)
  replace BB := Lib.hid (below3 BB.out ha)
  clear ha hb
  have a_c := K_c.out.e0
  have b_c := K_c.out.e1
  have c_c := K_c.out.e2
  go_wp2_with fail
  refine (CP.out A B D next.length a head.length b tail.length d _ P_c.out).mono ?_
  rintro e w4 ⟨Ap, ap, Bp, bp, Dp, dp, rfl, ho, hb⟩
  clear a_c b_c c_c
  have ha := hb.alloc hb.size (.cells #[.slice Ap N1.length ap, .slice Bp H1.length bp, .slice Dp T1.length dp] 24)
  have han := (Below.refl w4.heap.size w4).alloc (Nat.le_refl _) (.cells #[.slice Ap N1.length ap, .slice Bp H1.length bp, .slice Dp T1.length dp] 24)
  replace K_c := Lib.hid (K_c.out.below ha K_c.out.lt)
  replace P_c := Lib.hid (P_c.out.below ha)
  replace BB := Lib.hid (below3 BB.out ha)
  have P_a := Lib.hid ((ho.c.chn).below han)
  have K_a := Lib.hid (Bk.new w4 24 #[.slice Ap N1.length ap, .slice Bp H1.length bp, .slice Dp T1.length dp])
  clear ha hb han ho
  have a_c := K_c.out.e0
  have b_c := K_c.out.e1
  have c_c := K_c.out.e2
  go_wp2_with fail
  refine (CW.out A B D next.length a head.length b tail.length d _ P_c.out).mono ?_
  rintro e w5 ⟨Ai, ai, rfl, ho, hb⟩
  clear a_c b_c c_c
  have ha := hb
  replace K_c := Lib.hid (K_c.out.below ha K_c.out.lt)
  replace K_a := Lib.hid (K_a.out.below ha K_a.out.lt)
  replace P_c := Lib.hid (P_c.out.below ha)
  replace P_a := Lib.hid (P_a.out.below ha)
  replace BB := Lib.hid (below3 BB.out ha)
  have I_i := Lib.hid (ho.ints)
  clear ha hb ho
  have a_c := K_c.out.e0
  have b_c := K_c.out.e1
  have c_c := K_c.out.e2
  go_wp2_with fail
  refine (CL.out A B D next.length a head.length b tail.length d _ P_c.out).mono ?_
  rintro e w6 ⟨Al, al, rfl, ho, hb⟩
  clear a_c b_c c_c
  have ha := hb
  replace K_c := Lib.hid (K_c.out.below ha K_c.out.lt)
  replace K_a := Lib.hid (K_a.out.below ha K_a.out.lt)
  replace P_c := Lib.hid (P_c.out.below ha)
  replace P_a := Lib.hid (P_a.out.below ha)
  replace I_i := Lib.hid (I_i.out.below ha)
  replace BB := Lib.hid (below3 BB.out ha)
  have I_l := Lib.hid (ho.ints)
  clear ha hb ho
  have a_c := K_c.out.e0
  have b_c := K_c.out.e1
  have c_c := K_c.out.e2
  go_wp2_with fail
  refine (CJ.out A B D next.length a head.length b tail.length d _ P_c.out).mono ?_
  rintro e w7 ⟨Aj, aj, Bj, bj, Dj, dj, rfl, ho, hb⟩
  clear a_c b_c c_c
  have ha := hb.alloc hb.size (.cells #[.slice Aj N2.length aj, .slice Bj H2.length bj, .slice Dj T2.length dj] 24)
  have han := (Below.refl w7.heap.size w7).alloc (Nat.le_refl _) (.cells #[.slice Aj N2.length aj, .slice Bj H2.length bj, .slice Dj T2.length dj] 24)
  replace K_c := Lib.hid (K_c.out.below ha K_c.out.lt)
  replace K_a := Lib.hid (K_a.out.below ha K_a.out.lt)
  replace P_c := Lib.hid (P_c.out.below ha)
  replace P_a := Lib.hid (P_a.out.below ha)
  replace I_i := Lib.hid (I_i.out.below ha)
  replace I_l := Lib.hid (I_l.out.below ha)
  replace BB := Lib.hid (below3 BB.out ha)
  have P_j := Lib.hid ((ho.c.chn).below han)
  have K_j := Lib.hid (Bk.new w7 24 #[.slice Aj N2.length aj, .slice Bj H2.length bj, .slice Dj T2.length dj])
  clear ha hb han ho
  have a_j := K_j.out.e0
  have b_j := K_j.out.e1
  have c_j := K_j.out.e2
  go_wp2_with fail
  refine (CZ.out Aj Bj Dj N2.length aj H2.length bj T2.length dj _ P_j.out).mono ?_
  rintro e w8 ⟨An, an, rfl, ho, hb⟩
  clear a_j b_j c_j
  have ha := hb
  replace K_c := Lib.hid (K_c.out.below ha K_c.out.lt)
  replace K_a := Lib.hid (K_a.out.below ha K_a.out.lt)
  replace K_j := Lib.hid (K_j.out.below ha K_j.out.lt)
  replace P_c := Lib.hid (P_c.out.below ha)
  replace P_a := Lib.hid (P_a.out.below ha)
  replace I_i := Lib.hid (I_i.out.below ha)
  replace I_l := Lib.hid (I_l.out.below ha)
  replace P_j := Lib.hid (P_j.out.below ha)
  replace BB := Lib.hid (below3 BB.out ha)
  have I_n := Lib.hid (ho.ints)
  clear ha hb ho
  have a_j := K_j.out.e0
  have b_j := K_j.out.e1
  have c_j := K_j.out.e2
  go_wp2_with fail
  refine (CK.out Aj Bj Dj N2.length aj H2.length bj T2.length dj _ P_j.out).mono ?_
  rintro e w9 ⟨Ar, ar, Br, br, Dr, dr, rfl, ho, hb⟩
  clear a_j b_j c_j
  have ha := hb.alloc hb.size (.cells #[.slice Ar next.length ar, .slice Br head.length br, .slice Dr tail.length dr] 24)
  have han := (Below.refl w9.heap.size w9).alloc (Nat.le_refl _) (.cells #[.slice Ar next.length ar, .slice Br head.length br, .slice Dr tail.length dr] 24)
  replace K_c := Lib.hid (K_c.out.below ha K_c.out.lt)
  replace K_a := Lib.hid (K_a.out.below ha K_a.out.lt)
  replace K_j := Lib.hid (K_j.out.below ha K_j.out.lt)
  replace P_c := Lib.hid (P_c.out.below ha)
  replace P_a := Lib.hid (P_a.out.below ha)
  replace I_i := Lib.hid (I_i.out.below ha)
  replace I_l := Lib.hid (I_l.out.below ha)
  replace P_j := Lib.hid (P_j.out.below ha)
  replace I_n := Lib.hid (I_n.out.below ha)
  replace BB := Lib.hid (below3 BB.out ha)
  have P_k := Lib.hid ((ho.c.chn).below han)
  have K_k := Lib.hid (Bk.new w9 24 #[.slice Ar next.length ar, .slice Br head.length br, .slice Dr tail.length dr])
  clear ha hb han ho
  go_wp2_with fail
  refine (rsameInts_yes An Al zs.length an al zs _ I_n.out I_l.out).mono ?_
  rintro e w10 ⟨rfl, hb⟩
  have ha := hb
  replace K_c := Lib.hid (K_c.out.below ha K_c.out.lt)
  replace K_a := Lib.hid (K_a.out.below ha K_a.out.lt)
  replace K_j := Lib.hid (K_j.out.below ha K_j.out.lt)
  replace K_k := Lib.hid (K_k.out.below ha K_k.out.lt)
  replace P_c := Lib.hid (P_c.out.below ha)
  replace P_a := Lib.hid (P_a.out.below ha)
  replace I_i := Lib.hid (I_i.out.below ha)
  replace I_l := Lib.hid (I_l.out.below ha)
  replace P_j := Lib.hid (P_j.out.below ha)
  replace I_n := Lib.hid (I_n.out.below ha)
  replace P_k := Lib.hid (P_k.out.below ha)
  replace BB := Lib.hid (below3 BB.out ha)
  clear ha hb
  have a_k := K_k.out.e0
  have b_k := K_k.out.e1
  have c_k := K_k.out.e2
  have a_c := K_c.out.e0
  have b_c := K_c.out.e1
  have c_c := K_c.out.e2
  go_wp2_with fail
  refine (same_yes Ar Br Dr A B D next.length ar head.length br tail.length dr a b d next head tail _ P_k.out P_c.out).mono ?_
  rintro e w11 ⟨rfl, hb⟩
  clear a_k b_k c_k a_c b_c c_c
  have ha := hb
  replace K_c := Lib.hid (K_c.out.below ha K_c.out.lt)
  replace K_a := Lib.hid (K_a.out.below ha K_a.out.lt)
  replace K_j := Lib.hid (K_j.out.below ha K_j.out.lt)
  replace K_k := Lib.hid (K_k.out.below ha K_k.out.lt)
  replace P_c := Lib.hid (P_c.out.below ha)
  replace P_a := Lib.hid (P_a.out.below ha)
  replace I_i := Lib.hid (I_i.out.below ha)
  replace I_l := Lib.hid (I_l.out.below ha)
  replace P_j := Lib.hid (P_j.out.below ha)
  replace I_n := Lib.hid (I_n.out.below ha)
  replace P_k := Lib.hid (P_k.out.below ha)
  replace BB := Lib.hid (below3 BB.out ha)
  clear ha hb
  go_wp2
  go_ret
  exact ⟨rfl, BB.out⟩

/-- What is pushed, and cut, is as it was. -/
theorem push_cut {next head tail : List Int} {qs : List (List Int)} (r : Rep next head tail qs) (list node : Int) :
    (∃ N1 H1 T1, (∀ (A B D : Option Addr) (n a m b k d : Nat) (w : World), Chn w A n B m D k next head tail → Calls Try.prog 12 #[.agg #[.slice A n a, .slice B m b, .slice D k d], .int .i64 list, .int .i64 node] w (NewCE N1 H1 T1 0 w)) ∧ ∀ (A B D : Option Addr) (n a m b k d : Nat) (w : World), Chn w A n B m D k N1 H1 T1 → Calls Try.prog 16 #[.agg #[.slice A n a, .slice B m b, .slice D k d], .int .i64 node] w (NewCE next head tail 0 w)) ∨ ∃ N1 H1 T1 e1, e1 ≠ 0 ∧ ∀ (A B D : Option Addr) (n a m b k d : Nat) (w : World), Chn w A n B m D k next head tail → Calls Try.prog 12 #[.agg #[.slice A n a, .slice B m b, .slice D k d], .int .i64 list, .int .i64 node] w (NewCE N1 H1 T1 e1 w) := by
  have hm : qs.length = head.length := r.lh.symm
  rcases in_cases node next.length with hx | ⟨x, rfl, hxn, hx⟩
  · exact .inr ⟨[], [], [], 1, by omega, fun A B D n a m b k d w hp => push_out2 A B D n a m b k d next head tail list node qs r (by rw [← hp.x.1]; exact hx) w hp⟩
  · rcases in_cases list qs.length with hl | ⟨i, rfl, hi, hl⟩
    · exact .inr ⟨[], [], [], 1, by omega, fun A B D n a m b k d w hp => push_out1 A B D n a m b k d next head tail list x qs r (by rw [← hp.x.1]; exact hx) (by rw [← hp.h.1, ← hm]; exact hl) w hp⟩
    · rcases where_cases r (x : Int) with ⟨hw, hno⟩ | ⟨j, p, hj, hp', hx2, hw⟩
      · left
        obtain ⟨N, H, T, hl1, r1, c1⟩ := push_moves r hi hxn hno
        have e1 : qth (qs.set i (qth qs i ++ [(x : Int)])) i = qth qs i ++ [(x : Int)] := by rw [qth_set _ _ _ _ hi, if_pos rfl]
        obtain ⟨N2, H2, T2, hl2, r2, c2⟩ := cut_moves r1 (i := i) (p := (qth qs i).length) (x := x) (by simpa using hi) (by rw [e1]; simp) (by rw [e1, nth_snoc_ _ _ _ (by omega), if_neg (by omega)])
        rw [e1, List.set_set] at r2
        have e2 : (qth qs i ++ [(x : Int)]).eraseIdx (qth qs i).length = qth qs i := by rw [List.eraseIdx_append_of_length_le (Nat.le_refl _)]; simp
        rw [e2, set_qth hi] at r2
        obtain ⟨rfl, rfl, rfl⟩ := r2.same r (hl2.trans hl1)
        exact ⟨N, H, T, fun A B D n a m b k d w hp => c1 A B D n a m b k d w hp, fun A B D n a m b k d w hp => c2 A B D n a m b k d w hp⟩
      · exact .inr ⟨[], [], [], 6, by omega, fun A B D n a m b k d w hp => push_there A B D n a m b k d next head tail i x qs r (by rw [← hp.x.1]; exact hx) (by rw [← hp.h.1, ← hm]; exact hl) (by omega) w hp⟩

/-- Put behind one of none, and back. -/
theorem join_back {next head tail : List Int} {qs : List (List Int)} (r : Rep next head tail qs) {i t : Nat} (hi : i < qs.length) (ht : t < qs.length) (hne : i ≠ t) (h0 : qth qs t = []) :
    ∃ N2 H2 T2, (∀ (A B D : Option Addr) (n a m b k d : Nat) (w : World), Chn w A n B m D k next head tail → Calls Try.prog 18 #[.agg #[.slice A n a, .slice B m b, .slice D k d], .int .i64 i, .int .i64 t] w (NewCE N2 H2 T2 0 w)) ∧ (∀ (A B D : Option Addr) (n a m b k d : Nat) (w : World), Chn w A n B m D k N2 H2 T2 → Calls Try.prog 23 #[.agg #[.slice A n a, .slice B m b, .slice D k d], .int .i64 t] w (RetIE (qth qs i) 0 w)) ∧ ∀ (A B D : Option Addr) (n a m b k d : Nat) (w : World), Chn w A n B m D k N2 H2 T2 → Calls Try.prog 18 #[.agg #[.slice A n a, .slice B m b, .slice D k d], .int .i64 t, .int .i64 i] w (NewCE next head tail 0 w) := by
  obtain ⟨N, H, T, hl1, r1, c1⟩ := join_moves r hi ht hne
  rw [h0, List.nil_append] at r1
  obtain ⟨qs1, hq⟩ : ∃ qs1, (qs.set t (qth qs i)).set i [] = qs1 := ⟨_, rfl⟩
  rw [hq] at r1
  have hl : qs1.length = qs.length := by rw [← hq]; simp
  have q1 : qth qs1 t = qth qs i := by rw [← hq, qth_set _ _ _ _ (by simpa using ht), if_neg hne, qth_set _ _ _ _ ht, if_pos rfl]
  have q2 : qth qs1 i = [] := by rw [← hq, qth_set _ _ _ _ (by simpa using hi), if_pos rfl]
  obtain ⟨N2, H2, T2, hl2, r2, c2⟩ := join_moves r1 (f := t) (t := i) (by omega) (by omega) (fun e => hne e.symm)
  rw [q1, q2, List.nil_append] at r2
  have e : (qs1.set i (qth qs i)).set t [] = qs := by
    refine ext_qth (by simp [hl]) fun j hj => ?_
    have hj2 : j < qs.length := by simpa [hl] using hj
    rw [qth_set _ _ _ _ (by simpa [hl] using hj2)]
    by_cases h1 : t = j
    · subst h1; rw [if_pos rfl, h0]
    · rw [if_neg h1, qth_set _ _ _ _ (by omega)]
      by_cases h2 : i = j
      · subst h2; rw [if_pos rfl]
      · rw [if_neg h2, ← hq, qth_set _ _ _ _ (by simpa using hj2), if_neg h2, qth_set _ _ _ _ hj2, if_neg h1]
  rw [e] at r2
  obtain ⟨rfl, rfl, rfl⟩ := r2.same r (hl2.trans hl1)
  refine ⟨N, H, T, fun A B D n a m b k d w hp => c1 A B D n a m b k d w hp, fun A B D n a m b k d w hp => ?_, fun A B D n a m b k d w hp => c2 A B D n a m b k d w hp⟩
  have := walk_ok A B D n a m b k d N H T t qs1 r1 (by omega) w hp
  rwa [q1] at this

/-- How the second half goes. -/
theorem back_ways {next head tail : List Int} {qs : List (List Int)} (r : Rep next head tail qs) (list tu : Int) {G : Prop}
    (gf : ∀ zs ef eg, ef ≠ 0 → (∀ (A B D : Option Addr) (n a m b k d : Nat) (w : World), Chn w A n B m D k next head tail → Calls Try.prog 23 #[.agg #[.slice A n a, .slice B m b, .slice D k d], .int .i64 tu] w (RetIE [] ef w)) → (∀ (A B D : Option Addr) (n a m b k d : Nat) (w : World), Chn w A n B m D k next head tail → Calls Try.prog 23 #[.agg #[.slice A n a, .slice B m b, .slice D k d], .int .i64 list] w (RetIE zs eg w)) → G) (gg : ∀ into zs eg, eg ≠ 0 → (∀ (A B D : Option Addr) (n a m b k d : Nat) (w : World), Chn w A n B m D k next head tail → Calls Try.prog 23 #[.agg #[.slice A n a, .slice B m b, .slice D k d], .int .i64 tu] w (RetIE into 0 w)) → (∀ (A B D : Option Addr) (n a m b k d : Nat) (w : World), Chn w A n B m D k next head tail → Calls Try.prog 23 #[.agg #[.slice A n a, .slice B m b, .slice D k d], .int .i64 list] w (RetIE zs eg w)) → G) (gi : ∀ into zs, 0 < into.length → (∀ (A B D : Option Addr) (n a m b k d : Nat) (w : World), Chn w A n B m D k next head tail → Calls Try.prog 23 #[.agg #[.slice A n a, .slice B m b, .slice D k d], .int .i64 tu] w (RetIE into 0 w)) → (∀ (A B D : Option Addr) (n a m b k d : Nat) (w : World), Chn w A n B m D k next head tail → Calls Try.prog 23 #[.agg #[.slice A n a, .slice B m b, .slice D k d], .int .i64 list] w (RetIE zs 0 w)) → G)
    (gs : ∀ zs, list = tu → (∀ (A B D : Option Addr) (n a m b k d : Nat) (w : World), Chn w A n B m D k next head tail → Calls Try.prog 23 #[.agg #[.slice A n a, .slice B m b, .slice D k d], .int .i64 tu] w (RetIE [] 0 w)) → (∀ (A B D : Option Addr) (n a m b k d : Nat) (w : World), Chn w A n B m D k next head tail → Calls Try.prog 23 #[.agg #[.slice A n a, .slice B m b, .slice D k d], .int .i64 list] w (RetIE zs 0 w)) → G)
    (gy : ∀ zs N2 H2 T2, list ≠ tu → (∀ (A B D : Option Addr) (n a m b k d : Nat) (w : World), Chn w A n B m D k next head tail → Calls Try.prog 23 #[.agg #[.slice A n a, .slice B m b, .slice D k d], .int .i64 tu] w (RetIE [] 0 w)) → (∀ (A B D : Option Addr) (n a m b k d : Nat) (w : World), Chn w A n B m D k next head tail → Calls Try.prog 23 #[.agg #[.slice A n a, .slice B m b, .slice D k d], .int .i64 list] w (RetIE zs 0 w)) → (∀ (A B D : Option Addr) (n a m b k d : Nat) (w : World), Chn w A n B m D k next head tail → Calls Try.prog 18 #[.agg #[.slice A n a, .slice B m b, .slice D k d], .int .i64 list, .int .i64 tu] w (NewCE N2 H2 T2 0 w)) → (∀ (A B D : Option Addr) (n a m b k d : Nat) (w : World), Chn w A n B m D k N2 H2 T2 → Calls Try.prog 23 #[.agg #[.slice A n a, .slice B m b, .slice D k d], .int .i64 tu] w (RetIE zs 0 w)) → (∀ (A B D : Option Addr) (n a m b k d : Nat) (w : World), Chn w A n B m D k N2 H2 T2 → Calls Try.prog 18 #[.agg #[.slice A n a, .slice B m b, .slice D k d], .int .i64 tu, .int .i64 list] w (NewCE next head tail 0 w)) → G) : G := by
  have hm : qs.length = head.length := r.lh.symm
  rcases in_cases tu qs.length with ht | ⟨t, rfl, ht, ht'⟩
  · obtain ⟨zs, er, h, -⟩ := walk_both next head tail list
    exact gf zs 1 er (by omega) (fun A B D n a m b k d w hp => walk_out A B D n a m b k d next head tail tu qs r (by rw [← hp.h.1, ← hm]; exact ht) w hp) (fun A B D n a m b k d w hp => h A B D n a m b k d w hp)
  · have hw := fun A B D n a m b k d w hp => walk_ok A B D n a m b k d next head tail t qs r ht w hp
    rcases in_cases list qs.length with hl | ⟨i, rfl, hi, hl⟩
    · exact gg _ [] 1 (by omega) hw (fun A B D n a m b k d w hp => walk_out A B D n a m b k d next head tail list qs r (by rw [← hp.h.1, ← hm]; exact hl) w hp)
    · have hv := fun A B D n a m b k d w hp => walk_ok A B D n a m b k d next head tail i qs r hi w hp
      rcases Nat.eq_zero_or_pos (qth qs t).length with hz | hz
      · have h0 : qth qs t = [] := List.eq_nil_of_length_eq_zero hz
        rw [h0] at hw
        by_cases e : i = t
        · exact gs _ (by omega) hw hv
        · obtain ⟨N2, H2, T2, c1, c2, c3⟩ := join_back r hi ht e h0
          exact gy _ N2 H2 T2 (by omega) hw hv c1 c2 c3
      · exact gi _ _ hz hw hv

theorem lback_any (A B D : Option Addr) (n a m b k d : Nat) (next head tail : List Int) (list node tu : Int) (w : World) (hn : n ≤ 9223372036854775807) (hm : m ≤ 9223372036854775807) (hk : k ≤ 9223372036854775807) (hp : n ≤ 2000 → m ≤ 2000 → k ≤ 2000 → Chn w A n B m D k next head tail) :
    Calls Try.prog 6 #[.agg #[.slice A n a, .slice B m b, .slice D k d], .int .i64 list, .int .i64 node, .int .i64 tu] w (TrueAns w) := by
  cases hf : fewB n m k with
  | false => exact lback_long A B D n a m b k d list node tu w hn hm hk hf
  | true =>
    obtain ⟨h1, h2, h3⟩ := fewB_true hf
    have hp := hp (by omega) (by omega) (by omega)
    obtain rfl := hp.x.1
    obtain rfl := hp.h.1
    obtain rfl := hp.t.1
    by_cases hR : ∃ qs, Rep next head tail qs
    · obtain ⟨qs, r⟩ := hR
      rcases push_cut r list node with ⟨N1, H1, T1, cp, cc⟩ | ⟨N1, H1, T1, e1, he, cp⟩
      · exact back_ways r list tu (fun zs ef eg hz cw cl => lback_ok_f A B D a b d next head tail qs list node tu N1 H1 T1  [] zs ef eg w hf hp r cp cc cw cl hz) (fun into zs eg hz cw cl => lback_ok_g A B D a b d next head tail qs list node tu N1 H1 T1  into zs eg w hf hp r cp cc cw cl hz) (fun into zs hi cw cl => lback_ok_i A B D a b d next head tail qs list node tu N1 H1 T1  into zs w hf hp r cp cc cw cl hi) (fun zs hl cw cl => lback_ok_s A B D a b d next head tail qs list node tu N1 H1 T1  zs w hf hp r cp cc cw cl hl) (fun zs N2 H2 T2 hl cw cl cj cz ck => lback_ok_y A B D a b d next head tail qs list node tu N1 H1 T1  zs N2 H2 T2 w hf hp r cp cc cw cl hl cj cz ck)
      · exact back_ways r list tu (fun zs ef eg hz cw cl => lback_no_f A B D a b d next head tail qs list node tu N1 H1 T1 e1 [] zs ef eg w hf hp r cp he cw cl hz) (fun into zs eg hz cw cl => lback_no_g A B D a b d next head tail qs list node tu N1 H1 T1 e1 into zs eg w hf hp r cp he cw cl hz) (fun into zs hi cw cl => lback_no_i A B D a b d next head tail qs list node tu N1 H1 T1 e1 into zs w hf hp r cp he cw cl hi) (fun zs hl cw cl => lback_no_s A B D a b d next head tail qs list node tu N1 H1 T1 e1 zs w hf hp r cp he cw cl hl) (fun zs N2 H2 T2 hl cw cl cj cz ck => lback_no_y A B D a b d next head tail qs list node tu N1 H1 T1 e1 zs N2 H2 T2 w hf hp r cp he cw cl hl cj cz ck)
    · exact lback_bad A B D a b d next head tail list node tu w hf hp fun qs r => hR ⟨qs, r⟩

end Go.Proofs.Ytiheeehegjfmgaa

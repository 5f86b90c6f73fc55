/-
  The walk of the law ChainMoves of layer 6: any node pushed, popped and cut, and any list put behind another one, are the document's; the chains stay.
-/
import Derived.Test.YtiheeehegjfmgaaUse
namespace Go.Proofs.Ytiheeehegjfmgaa
open Go.RowKit

theorem fit_wrap64 (x : Int) : Fit (wrap64 x) := by unfold Fit wrap64; omega
theorem OwnI.ne_bk {E U : TypeId} {w : World} {base g g' c : Nat} {zs : List Int} {cs : Array Value} (h : OwnI E w base (some ⟨g, 0, none⟩) c zs) (k : Bk w g' U cs) (hne : E ≠ U) : ¬ (g' = g) := by
  rintro rfl
  obtain ⟨cs', hk⟩ := h.que.type (n := 0) (d := 0) (k := g') rfl
  exact hne (bk_types hk k)

set_option maxRecDepth 100000 in
set_option maxHeartbeats 4000000 in
theorem lmoves_long (A B D : Option Addr) (n a m b k d : Nat) (list node tu : Int) (w : World) (hn : n ≤ 9223372036854775807) (hm : m ≤ 9223372036854775807) (hk : k ≤ 9223372036854775807) (hf : fewB n m k = false) :
    Calls Try.prog 3 #[.agg #[.slice A n a, .slice B m b, .slice D k d], .int .i64 list, .int .i64 node, .int .i64 tu] w (TrueAns w) := by
  have BB := Lib.hid ((Below.refl w.heap.size w).alloc (Nat.le_refl _) (.cells #[.slice A n a, .slice B m b, .slice D k d] 24))
  have K_c := Lib.hid (Bk.new w 24 #[.slice A n a, .slice B m b, .slice D k d])
  have HF := Lib.hid hf
  clear hf
  go_enter Try.func3, Try.ntmps3
  go_wp2_with fail
  refine (live_any _).mono ?_
  rintro e w1 ⟨rfl, hb⟩
  have ha := hb
  replace K_c := Lib.hid (K_c.out.below ha K_c.out.lt)
  replace BB := Lib.hid (below3 BB.out ha)
  clear ha hb
  have a_c := K_c.out.e0
  have b_c := K_c.out.e1
  have c_c := K_c.out.e2
  go_wp2_with fail
  refine (few_any A B D n a m b k d _ hn hm hk).mono ?_
  rw [HF.out]
  rintro e w2 ⟨rfl, hb⟩
  clear a_c b_c c_c
  have ha := hb
  replace K_c := Lib.hid (K_c.out.below ha K_c.out.lt)
  replace BB := Lib.hid (below3 BB.out ha)
  clear ha hb
  go_wp2
  go_ret
  exact ⟨rfl, BB.out⟩

set_option maxRecDepth 100000 in
set_option maxHeartbeats 8000000 in
theorem lmoves_main (A B D : Option Addr) (n a m b k d : Nat) (next head tail : List Int) (list node tu : Int) (w : World) (hf : fewB n m k = true) (hp : Chn w A n B m D k next head tail) :
    Calls Try.prog 3 #[.agg #[.slice A n a, .slice B m b, .slice D k d], .int .i64 list, .int .i64 node, .int .i64 tu] w (TrueAns w) := by
  obtain ⟨h1, h2, h3⟩ := fewB_true hf
  obtain rfl := hp.x.1
  obtain rfl := hp.h.1
  obtain rfl := hp.t.1
  have hb0 := (Below.refl w.heap.size w).alloc (Nat.le_refl _) (.cells #[.slice A next.length a, .slice B head.length b, .slice D tail.length d] 24)
  have BB := Lib.hid hb0
  have K_c := Lib.hid (Bk.new w 24 #[.slice A next.length a, .slice B head.length b, .slice D tail.length d])
  have P_c := Lib.hid (hp.below hb0)
  have HF := Lib.hid hf
  have hn : next.length ≤ 9223372036854775807 := by omega
  have hm : head.length ≤ 9223372036854775807 := by omega
  have hk : tail.length ≤ 9223372036854775807 := by omega
  have HN1 := Lib.hid h1
  obtain ⟨N1, H1, T1, e1, c1⟩ := push_both next head tail list node
  obtain ⟨x, N2, H2, T2, e2, c2⟩ := pop_both next head tail list
  obtain ⟨N3, H3, T3, e3, c3⟩ := cut_both next head tail node
  obtain ⟨N4, H4, T4, e4, c4⟩ := join_both next head tail list tu
  have C1 := Lib.hid c1
  have C2 := Lib.hid c2
  have C3 := Lib.hid c3
  have C4 := Lib.hid c4
  clear hp hf hb0 h1 h2 h3 c1 c2 c3 c4
  go_enter Try.func3, Try.ntmps3
  go_wp2_with fail
  refine (live_any _).mono ?_
  rintro e w1 ⟨rfl, hb⟩
  have ha := hb
  replace K_c := Lib.hid (K_c.out.below ha K_c.out.lt)
  replace P_c := Lib.hid (P_c.out.below ha)
  replace BB := Lib.hid (below3 BB.out ha)
  clear ha hb
  have a_c := K_c.out.e0
  have b_c := K_c.out.e1
  have c_c := K_c.out.e2
  go_wp2_with fail
  refine (few_any A B D next.length a head.length b tail.length d _ hn hm hk).mono ?_
  rw [HF.out]
  rintro e w2 ⟨rfl, hb⟩
  clear a_c b_c c_c
  have ha := hb
  replace K_c := Lib.hid (K_c.out.below ha K_c.out.lt)
  replace P_c := Lib.hid (P_c.out.below ha)
  replace BB := Lib.hid (below3 BB.out ha)
  clear ha hb
  have a_c := K_c.out.e0
  have b_c := K_c.out.e1
  have c_c := K_c.out.e2
  clear hn hm hk
  go_wp2_with fail
  refine (rcopy_any A B D next.length a head.length b tail.length d next head tail _ P_c.out).mono ?_
  rintro e w3 ⟨Aw, aw, Bw, bw, Dw, dw, rfl, ho, hb⟩
  clear a_c b_c c_c
  have ha := hb.alloc hb.size (.cells #[.slice Aw next.length aw, .slice Bw head.length bw, .slice Dw tail.length dw] 24)
  have han := (Below.refl w3.heap.size w3).alloc (Nat.le_refl _) (.cells #[.slice Aw next.length aw, .slice Bw head.length bw, .slice Dw tail.length dw] 24)
  replace K_c := Lib.hid (K_c.out.below ha K_c.out.lt)
  replace P_c := Lib.hid (P_c.out.below ha)
  replace BB := Lib.hid (below3 BB.out ha)
  have P_was := Lib.hid ((ho.chn).below han)
  have K_was := Lib.hid (Bk.new w3 24 #[.slice Aw next.length aw, .slice Bw head.length bw, .slice Dw tail.length dw])
  clear ha hb han ho
  have a_c := K_c.out.e0
  have b_c := K_c.out.e1
  have c_c := K_c.out.e2
  have VS := P_c
  have VW := P_was
  have VKC := K_c
  have VKW := K_was
  have VB := BB
  have BV := Lib.hid (Below.refl (w3.alloc (.cells #[.slice Aw next.length aw, .slice Bw head.length bw, .slice Dw tail.length dw] 24)).heap.size (w3.alloc (.cells #[.slice Aw next.length aw, .slice Bw head.length bw, .slice Dw tail.length dw] 24)))
  go_wp2_with fail
  refine (C1.out.1 A B D next.length a head.length b tail.length d _ P_c.out).mono ?_
  rintro e w4 ⟨Aa1, aa1, Ba1, ba1, Da1, da1, rfl, ho, hb⟩
  clear a_c b_c c_c
  have ha := hb.alloc hb.size (.cells #[.slice Aa1 N1.length aa1, .slice Ba1 H1.length ba1, .slice Da1 T1.length da1] 24)
  have han := (Below.refl w4.heap.size w4).alloc (Nat.le_refl _) (.cells #[.slice Aa1 N1.length aa1, .slice Ba1 H1.length ba1, .slice Da1 T1.length da1] 24)
  replace K_c := Lib.hid (K_c.out.below ha K_c.out.lt)
  replace K_was := Lib.hid (K_was.out.below ha K_was.out.lt)
  replace P_c := Lib.hid (P_c.out.below ha)
  replace P_was := Lib.hid (P_was.out.below ha)
  replace BB := Lib.hid (below3 BB.out ha)
  replace BV := Lib.hid (below3 BV.out ha)
  have P_a := Lib.hid ((ho.c.chn).below han)
  have K_a := Lib.hid (Bk.new w4 24 #[.slice Aa1 N1.length aa1, .slice Ba1 H1.length ba1, .slice Da1 T1.length da1])
  have O_a := Lib.hid (ho.c.x.below han)
  clear ha hb han ho
  have a_c := K_c.out.e0
  have b_c := K_c.out.e1
  have c_c := K_c.out.e2
  go_wp2_with fail
  refine (C1.out.2 A B D next.length a head.length b tail.length d _ P_c.out).mono ?_
  rintro e w5 ⟨Ab1, ab1, Bb1, bb1, Db1, db1, rfl, ho, hb⟩
  clear a_c b_c c_c
  have ha := hb.alloc hb.size (.cells #[.slice Ab1 N1.length ab1, .slice Bb1 H1.length bb1, .slice Db1 T1.length db1] 24)
  have han := (Below.refl w5.heap.size w5).alloc (Nat.le_refl _) (.cells #[.slice Ab1 N1.length ab1, .slice Bb1 H1.length bb1, .slice Db1 T1.length db1] 24)
  replace K_c := Lib.hid (K_c.out.below ha K_c.out.lt)
  replace K_was := Lib.hid (K_was.out.below ha K_was.out.lt)
  replace K_a := Lib.hid (K_a.out.below ha K_a.out.lt)
  replace P_c := Lib.hid (P_c.out.below ha)
  replace P_was := Lib.hid (P_was.out.below ha)
  replace P_a := Lib.hid (P_a.out.below ha)
  replace O_a := Lib.hid (O_a.out.below ha)
  replace BB := Lib.hid (below3 BB.out ha)
  replace BV := Lib.hid (below3 BV.out ha)
  have P_b := Lib.hid ((ho.chn).below han)
  have K_b := Lib.hid (Bk.new w5 24 #[.slice Ab1 N1.length ab1, .slice Bb1 H1.length bb1, .slice Db1 T1.length db1])
  clear ha hb han ho
  have a_c := K_c.out.e0
  have b_c := K_c.out.e1
  have c_c := K_c.out.e2
  go_wp2_with fail
  refine (C2.out.1 A B D next.length a head.length b tail.length d _ P_c.out).mono ?_
  rintro e w6 ⟨Ap2, ap2, Bp2, bp2, Dp2, dp2, rfl, ho, hb⟩
  clear a_c b_c c_c
  have ha := hb.alloc hb.size (.cells #[.slice Ap2 N2.length ap2, .slice Bp2 H2.length bp2, .slice Dp2 T2.length dp2] 24)
  have han := (Below.refl w6.heap.size w6).alloc (Nat.le_refl _) (.cells #[.slice Ap2 N2.length ap2, .slice Bp2 H2.length bp2, .slice Dp2 T2.length dp2] 24)
  replace K_c := Lib.hid (K_c.out.below ha K_c.out.lt)
  replace K_was := Lib.hid (K_was.out.below ha K_was.out.lt)
  replace K_a := Lib.hid (K_a.out.below ha K_a.out.lt)
  replace K_b := Lib.hid (K_b.out.below ha K_b.out.lt)
  replace P_c := Lib.hid (P_c.out.below ha)
  replace P_was := Lib.hid (P_was.out.below ha)
  replace P_a := Lib.hid (P_a.out.below ha)
  replace O_a := Lib.hid (O_a.out.below ha)
  replace P_b := Lib.hid (P_b.out.below ha)
  replace BB := Lib.hid (below3 BB.out ha)
  replace BV := Lib.hid (below3 BV.out ha)
  have P_p := Lib.hid ((ho.c.chn).below han)
  have K_p := Lib.hid (Bk.new w6 24 #[.slice Ap2 N2.length ap2, .slice Bp2 H2.length bp2, .slice Dp2 T2.length dp2])
  clear ha hb han ho
  have a_c := K_c.out.e0
  have b_c := K_c.out.e1
  have c_c := K_c.out.e2
  go_wp2_with fail
  refine (C2.out.2 A B D next.length a head.length b tail.length d _ P_c.out).mono ?_
  rintro e w7 ⟨Aq2, aq2, Bq2, bq2, Dq2, dq2, rfl, ho, hb⟩
  clear a_c b_c c_c
  have ha := hb.alloc hb.size (.cells #[.slice Aq2 N2.length aq2, .slice Bq2 H2.length bq2, .slice Dq2 T2.length dq2] 24)
  have han := (Below.refl w7.heap.size w7).alloc (Nat.le_refl _) (.cells #[.slice Aq2 N2.length aq2, .slice Bq2 H2.length bq2, .slice Dq2 T2.length dq2] 24)
  replace K_c := Lib.hid (K_c.out.below ha K_c.out.lt)
  replace K_was := Lib.hid (K_was.out.below ha K_was.out.lt)
  replace K_a := Lib.hid (K_a.out.below ha K_a.out.lt)
  replace K_b := Lib.hid (K_b.out.below ha K_b.out.lt)
  replace K_p := Lib.hid (K_p.out.below ha K_p.out.lt)
  replace P_c := Lib.hid (P_c.out.below ha)
  replace P_was := Lib.hid (P_was.out.below ha)
  replace P_a := Lib.hid (P_a.out.below ha)
  replace O_a := Lib.hid (O_a.out.below ha)
  replace P_b := Lib.hid (P_b.out.below ha)
  replace P_p := Lib.hid (P_p.out.below ha)
  replace BB := Lib.hid (below3 BB.out ha)
  replace BV := Lib.hid (below3 BV.out ha)
  have P_q := Lib.hid ((ho.chn).below han)
  have K_q := Lib.hid (Bk.new w7 24 #[.slice Aq2 N2.length aq2, .slice Bq2 H2.length bq2, .slice Dq2 T2.length dq2])
  clear ha hb han ho
  have a_c := K_c.out.e0
  have b_c := K_c.out.e1
  have c_c := K_c.out.e2
  go_wp2_with fail
  refine (C3.out.1 A B D next.length a head.length b tail.length d _ P_c.out).mono ?_
  rintro e w8 ⟨As3, as3, Bs3, bs3, Ds3, ds3, rfl, ho, hb⟩
  clear a_c b_c c_c
  have ha := hb.alloc hb.size (.cells #[.slice As3 N3.length as3, .slice Bs3 H3.length bs3, .slice Ds3 T3.length ds3] 24)
  have han := (Below.refl w8.heap.size w8).alloc (Nat.le_refl _) (.cells #[.slice As3 N3.length as3, .slice Bs3 H3.length bs3, .slice Ds3 T3.length ds3] 24)
  replace K_c := Lib.hid (K_c.out.below ha K_c.out.lt)
  replace K_was := Lib.hid (K_was.out.below ha K_was.out.lt)
  replace K_a := Lib.hid (K_a.out.below ha K_a.out.lt)
  replace K_b := Lib.hid (K_b.out.below ha K_b.out.lt)
  replace K_p := Lib.hid (K_p.out.below ha K_p.out.lt)
  replace K_q := Lib.hid (K_q.out.below ha K_q.out.lt)
  replace P_c := Lib.hid (P_c.out.below ha)
  replace P_was := Lib.hid (P_was.out.below ha)
  replace P_a := Lib.hid (P_a.out.below ha)
  replace O_a := Lib.hid (O_a.out.below ha)
  replace P_b := Lib.hid (P_b.out.below ha)
  replace P_p := Lib.hid (P_p.out.below ha)
  replace P_q := Lib.hid (P_q.out.below ha)
  replace BB := Lib.hid (below3 BB.out ha)
  replace BV := Lib.hid (below3 BV.out ha)
  have P_s := Lib.hid ((ho.c.chn).below han)
  have K_s := Lib.hid (Bk.new w8 24 #[.slice As3 N3.length as3, .slice Bs3 H3.length bs3, .slice Ds3 T3.length ds3])
  clear ha hb han ho
  have a_c := K_c.out.e0
  have b_c := K_c.out.e1
  have c_c := K_c.out.e2
  go_wp2_with fail
  refine (C3.out.2 A B D next.length a head.length b tail.length d _ P_c.out).mono ?_
  rintro e w9 ⟨At3, at3, Bt3, bt3, Dt3, dt3, rfl, ho, hb⟩
  clear a_c b_c c_c
  have ha := hb.alloc hb.size (.cells #[.slice At3 N3.length at3, .slice Bt3 H3.length bt3, .slice Dt3 T3.length dt3] 24)
  have han := (Below.refl w9.heap.size w9).alloc (Nat.le_refl _) (.cells #[.slice At3 N3.length at3, .slice Bt3 H3.length bt3, .slice Dt3 T3.length dt3] 24)
  replace K_c := Lib.hid (K_c.out.below ha K_c.out.lt)
  replace K_was := Lib.hid (K_was.out.below ha K_was.out.lt)
  replace K_a := Lib.hid (K_a.out.below ha K_a.out.lt)
  replace K_b := Lib.hid (K_b.out.below ha K_b.out.lt)
  replace K_p := Lib.hid (K_p.out.below ha K_p.out.lt)
  replace K_q := Lib.hid (K_q.out.below ha K_q.out.lt)
  replace K_s := Lib.hid (K_s.out.below ha K_s.out.lt)
  replace P_c := Lib.hid (P_c.out.below ha)
  replace P_was := Lib.hid (P_was.out.below ha)
  replace P_a := Lib.hid (P_a.out.below ha)
  replace O_a := Lib.hid (O_a.out.below ha)
  replace P_b := Lib.hid (P_b.out.below ha)
  replace P_p := Lib.hid (P_p.out.below ha)
  replace P_q := Lib.hid (P_q.out.below ha)
  replace P_s := Lib.hid (P_s.out.below ha)
  replace BB := Lib.hid (below3 BB.out ha)
  replace BV := Lib.hid (below3 BV.out ha)
  have P_t := Lib.hid ((ho.chn).below han)
  have K_t := Lib.hid (Bk.new w9 24 #[.slice At3 N3.length at3, .slice Bt3 H3.length bt3, .slice Dt3 T3.length dt3])
  clear ha hb han ho
  have a_c := K_c.out.e0
  have b_c := K_c.out.e1
  have c_c := K_c.out.e2
  go_wp2_with fail
  refine (C4.out.1 A B D next.length a head.length b tail.length d _ P_c.out).mono ?_
  rintro e w10 ⟨Au4, au4, Bu4, bu4, Du4, du4, rfl, ho, hb⟩
  clear a_c b_c c_c
  have ha := hb.alloc hb.size (.cells #[.slice Au4 N4.length au4, .slice Bu4 H4.length bu4, .slice Du4 T4.length du4] 24)
  have han := (Below.refl w10.heap.size w10).alloc (Nat.le_refl _) (.cells #[.slice Au4 N4.length au4, .slice Bu4 H4.length bu4, .slice Du4 T4.length du4] 24)
  replace K_c := Lib.hid (K_c.out.below ha K_c.out.lt)
  replace K_was := Lib.hid (K_was.out.below ha K_was.out.lt)
  replace K_a := Lib.hid (K_a.out.below ha K_a.out.lt)
  replace K_b := Lib.hid (K_b.out.below ha K_b.out.lt)
  replace K_p := Lib.hid (K_p.out.below ha K_p.out.lt)
  replace K_q := Lib.hid (K_q.out.below ha K_q.out.lt)
  replace K_s := Lib.hid (K_s.out.below ha K_s.out.lt)
  replace K_t := Lib.hid (K_t.out.below ha K_t.out.lt)
  replace P_c := Lib.hid (P_c.out.below ha)
  replace P_was := Lib.hid (P_was.out.below ha)
  replace P_a := Lib.hid (P_a.out.below ha)
  replace O_a := Lib.hid (O_a.out.below ha)
  replace P_b := Lib.hid (P_b.out.below ha)
  replace P_p := Lib.hid (P_p.out.below ha)
  replace P_q := Lib.hid (P_q.out.below ha)
  replace P_s := Lib.hid (P_s.out.below ha)
  replace P_t := Lib.hid (P_t.out.below ha)
  replace BB := Lib.hid (below3 BB.out ha)
  replace BV := Lib.hid (below3 BV.out ha)
  have P_u := Lib.hid ((ho.c.chn).below han)
  have K_u := Lib.hid (Bk.new w10 24 #[.slice Au4 N4.length au4, .slice Bu4 H4.length bu4, .slice Du4 T4.length du4])
  clear ha hb han ho
  have a_c := K_c.out.e0
  have b_c := K_c.out.e1
  have c_c := K_c.out.e2
  go_wp2_with fail
  refine (C4.out.2 A B D next.length a head.length b tail.length d _ P_c.out).mono ?_
  rintro e w11 ⟨Av4, av4, Bv4, bv4, Dv4, dv4, rfl, ho, hb⟩
  clear a_c b_c c_c
  have ha := hb.alloc hb.size (.cells #[.slice Av4 N4.length av4, .slice Bv4 H4.length bv4, .slice Dv4 T4.length dv4] 24)
  have han := (Below.refl w11.heap.size w11).alloc (Nat.le_refl _) (.cells #[.slice Av4 N4.length av4, .slice Bv4 H4.length bv4, .slice Dv4 T4.length dv4] 24)
  replace K_c := Lib.hid (K_c.out.below ha K_c.out.lt)
  replace K_was := Lib.hid (K_was.out.below ha K_was.out.lt)
  replace K_a := Lib.hid (K_a.out.below ha K_a.out.lt)
  replace K_b := Lib.hid (K_b.out.below ha K_b.out.lt)
  replace K_p := Lib.hid (K_p.out.below ha K_p.out.lt)
  replace K_q := Lib.hid (K_q.out.below ha K_q.out.lt)
  replace K_s := Lib.hid (K_s.out.below ha K_s.out.lt)
  replace K_t := Lib.hid (K_t.out.below ha K_t.out.lt)
  replace K_u := Lib.hid (K_u.out.below ha K_u.out.lt)
  replace P_c := Lib.hid (P_c.out.below ha)
  replace P_was := Lib.hid (P_was.out.below ha)
  replace P_a := Lib.hid (P_a.out.below ha)
  replace O_a := Lib.hid (O_a.out.below ha)
  replace P_b := Lib.hid (P_b.out.below ha)
  replace P_p := Lib.hid (P_p.out.below ha)
  replace P_q := Lib.hid (P_q.out.below ha)
  replace P_s := Lib.hid (P_s.out.below ha)
  replace P_t := Lib.hid (P_t.out.below ha)
  replace P_u := Lib.hid (P_u.out.below ha)
  replace BB := Lib.hid (below3 BB.out ha)
  replace BV := Lib.hid (below3 BV.out ha)
  have P_v := Lib.hid ((ho.chn).below han)
  have K_v := Lib.hid (Bk.new w11 24 #[.slice Av4 N4.length av4, .slice Bv4 H4.length bv4, .slice Dv4 T4.length dv4])
  clear ha hb han ho
  have a_a := K_a.out.e0
  have b_a := K_a.out.e1
  have c_a := K_a.out.e2
  have a_b := K_b.out.e0
  have b_b := K_b.out.e1
  have c_b := K_b.out.e2
  go_wp2_with fail
  refine (rsame_yes Aa1 Ba1 Da1 Ab1 Bb1 Db1 N1.length aa1 H1.length ba1 T1.length da1 ab1 bb1 db1 N1 H1 T1 _ P_a.out P_b.out).mono ?_
  rintro e w12 ⟨rfl, hb⟩
  clear a_a b_a c_a a_b b_b c_b
  have ha := hb
  replace K_c := Lib.hid (K_c.out.below ha K_c.out.lt)
  replace K_was := Lib.hid (K_was.out.below ha K_was.out.lt)
  replace K_a := Lib.hid (K_a.out.below ha K_a.out.lt)
  replace K_b := Lib.hid (K_b.out.below ha K_b.out.lt)
  replace K_p := Lib.hid (K_p.out.below ha K_p.out.lt)
  replace K_q := Lib.hid (K_q.out.below ha K_q.out.lt)
  replace K_s := Lib.hid (K_s.out.below ha K_s.out.lt)
  replace K_t := Lib.hid (K_t.out.below ha K_t.out.lt)
  replace K_u := Lib.hid (K_u.out.below ha K_u.out.lt)
  replace K_v := Lib.hid (K_v.out.below ha K_v.out.lt)
  replace P_c := Lib.hid (P_c.out.below ha)
  replace P_was := Lib.hid (P_was.out.below ha)
  replace P_a := Lib.hid (P_a.out.below ha)
  replace O_a := Lib.hid (O_a.out.below ha)
  replace P_b := Lib.hid (P_b.out.below ha)
  replace P_p := Lib.hid (P_p.out.below ha)
  replace P_q := Lib.hid (P_q.out.below ha)
  replace P_s := Lib.hid (P_s.out.below ha)
  replace P_t := Lib.hid (P_t.out.below ha)
  replace P_u := Lib.hid (P_u.out.below ha)
  replace P_v := Lib.hid (P_v.out.below ha)
  replace BB := Lib.hid (below3 BB.out ha)
  replace BV := Lib.hid (below3 BV.out ha)
  clear ha hb
  have a_p := K_p.out.e0
  have b_p := K_p.out.e1
  have c_p := K_p.out.e2
  have a_q := K_q.out.e0
  have b_q := K_q.out.e1
  have c_q := K_q.out.e2
  go_wp2_with fail
  refine (rsame_yes Ap2 Bp2 Dp2 Aq2 Bq2 Dq2 N2.length ap2 H2.length bp2 T2.length dp2 aq2 bq2 dq2 N2 H2 T2 _ P_p.out P_q.out).mono ?_
  rintro e w13 ⟨rfl, hb⟩
  clear a_p b_p c_p a_q b_q c_q
  have ha := hb
  replace K_c := Lib.hid (K_c.out.below ha K_c.out.lt)
  replace K_was := Lib.hid (K_was.out.below ha K_was.out.lt)
  replace K_a := Lib.hid (K_a.out.below ha K_a.out.lt)
  replace K_b := Lib.hid (K_b.out.below ha K_b.out.lt)
  replace K_p := Lib.hid (K_p.out.below ha K_p.out.lt)
  replace K_q := Lib.hid (K_q.out.below ha K_q.out.lt)
  replace K_s := Lib.hid (K_s.out.below ha K_s.out.lt)
  replace K_t := Lib.hid (K_t.out.below ha K_t.out.lt)
  replace K_u := Lib.hid (K_u.out.below ha K_u.out.lt)
  replace K_v := Lib.hid (K_v.out.below ha K_v.out.lt)
  replace P_c := Lib.hid (P_c.out.below ha)
  replace P_was := Lib.hid (P_was.out.below ha)
  replace P_a := Lib.hid (P_a.out.below ha)
  replace O_a := Lib.hid (O_a.out.below ha)
  replace P_b := Lib.hid (P_b.out.below ha)
  replace P_p := Lib.hid (P_p.out.below ha)
  replace P_q := Lib.hid (P_q.out.below ha)
  replace P_s := Lib.hid (P_s.out.below ha)
  replace P_t := Lib.hid (P_t.out.below ha)
  replace P_u := Lib.hid (P_u.out.below ha)
  replace P_v := Lib.hid (P_v.out.below ha)
  replace BB := Lib.hid (below3 BB.out ha)
  replace BV := Lib.hid (below3 BV.out ha)
  clear ha hb
  have a_s := K_s.out.e0
  have b_s := K_s.out.e1
  have c_s := K_s.out.e2
  have a_t := K_t.out.e0
  have b_t := K_t.out.e1
  have c_t := K_t.out.e2
  go_wp2_with fail
  refine (rsame_yes As3 Bs3 Ds3 At3 Bt3 Dt3 N3.length as3 H3.length bs3 T3.length ds3 at3 bt3 dt3 N3 H3 T3 _ P_s.out P_t.out).mono ?_
  rintro e w14 ⟨rfl, hb⟩
  clear a_s b_s c_s a_t b_t c_t
  have ha := hb
  replace K_c := Lib.hid (K_c.out.below ha K_c.out.lt)
  replace K_was := Lib.hid (K_was.out.below ha K_was.out.lt)
  replace K_a := Lib.hid (K_a.out.below ha K_a.out.lt)
  replace K_b := Lib.hid (K_b.out.below ha K_b.out.lt)
  replace K_p := Lib.hid (K_p.out.below ha K_p.out.lt)
  replace K_q := Lib.hid (K_q.out.below ha K_q.out.lt)
  replace K_s := Lib.hid (K_s.out.below ha K_s.out.lt)
  replace K_t := Lib.hid (K_t.out.below ha K_t.out.lt)
  replace K_u := Lib.hid (K_u.out.below ha K_u.out.lt)
  replace K_v := Lib.hid (K_v.out.below ha K_v.out.lt)
  replace P_c := Lib.hid (P_c.out.below ha)
  replace P_was := Lib.hid (P_was.out.below ha)
  replace P_a := Lib.hid (P_a.out.below ha)
  replace O_a := Lib.hid (O_a.out.below ha)
  replace P_b := Lib.hid (P_b.out.below ha)
  replace P_p := Lib.hid (P_p.out.below ha)
  replace P_q := Lib.hid (P_q.out.below ha)
  replace P_s := Lib.hid (P_s.out.below ha)
  replace P_t := Lib.hid (P_t.out.below ha)
  replace P_u := Lib.hid (P_u.out.below ha)
  replace P_v := Lib.hid (P_v.out.below ha)
  replace BB := Lib.hid (below3 BB.out ha)
  replace BV := Lib.hid (below3 BV.out ha)
  clear ha hb
  have a_u := K_u.out.e0
  have b_u := K_u.out.e1
  have c_u := K_u.out.e2
  have a_v := K_v.out.e0
  have b_v := K_v.out.e1
  have c_v := K_v.out.e2
  go_wp2_with fail
  refine (rsame_yes Au4 Bu4 Du4 Av4 Bv4 Dv4 N4.length au4 H4.length bu4 T4.length du4 av4 bv4 dv4 N4 H4 T4 _ P_u.out P_v.out).mono ?_
  rintro e w15 ⟨rfl, hb⟩
  clear a_u b_u c_u a_v b_v c_v
  have ha := hb
  replace K_c := Lib.hid (K_c.out.below ha K_c.out.lt)
  replace K_was := Lib.hid (K_was.out.below ha K_was.out.lt)
  replace K_a := Lib.hid (K_a.out.below ha K_a.out.lt)
  replace K_b := Lib.hid (K_b.out.below ha K_b.out.lt)
  replace K_p := Lib.hid (K_p.out.below ha K_p.out.lt)
  replace K_q := Lib.hid (K_q.out.below ha K_q.out.lt)
  replace K_s := Lib.hid (K_s.out.below ha K_s.out.lt)
  replace K_t := Lib.hid (K_t.out.below ha K_t.out.lt)
  replace K_u := Lib.hid (K_u.out.below ha K_u.out.lt)
  replace K_v := Lib.hid (K_v.out.below ha K_v.out.lt)
  replace P_c := Lib.hid (P_c.out.below ha)
  replace P_was := Lib.hid (P_was.out.below ha)
  replace P_a := Lib.hid (P_a.out.below ha)
  replace O_a := Lib.hid (O_a.out.below ha)
  replace P_b := Lib.hid (P_b.out.below ha)
  replace P_p := Lib.hid (P_p.out.below ha)
  replace P_q := Lib.hid (P_q.out.below ha)
  replace P_s := Lib.hid (P_s.out.below ha)
  replace P_t := Lib.hid (P_t.out.below ha)
  replace P_u := Lib.hid (P_u.out.below ha)
  replace P_v := Lib.hid (P_v.out.below ha)
  replace BB := Lib.hid (below3 BB.out ha)
  replace BV := Lib.hid (below3 BV.out ha)
  clear ha hb
  have a_a := K_a.out.e0
  have b_a := K_a.out.e1
  have c_a := K_a.out.e2
  have hn1 : N1.length ≤ 140737488351232 := by have := O_a.out.1; omega
  have KA := K_a
  have OA := O_a
  have BU := BV
  clear K_c K_was K_a K_b K_p K_q K_s K_t K_u K_v P_c P_was P_a O_a P_b P_p P_q P_s P_t P_u P_v C1 C2 C3 C4 BB BV HF HN1
  go_wp2
  clear a_a b_a c_a
  go_loopw [138] (fun t wr => ∃ q : Nat, q ≤ N1.length ∧ t = .int .i64 q ∧ Hid (∃ l : List Int, l.length = N1.length ∧ OwnI 3 wr (w3.alloc (.cells #[.slice Aw next.length aw, .slice Bw head.length bw, .slice Dw tail.length dw] 24)).heap.size Aa1 aa1 l ∧ Bk wr w4.heap.size 24 #[.slice Aa1 N1.length aa1, .slice Ba1 H1.length ba1, .slice Da1 T1.length da1] ∧ Below (w3.alloc (.cells #[.slice Aw next.length aw, .slice Bw head.length bw, .slice Dw tail.length dw] 24)).heap.size (w3.alloc (.cells #[.slice Aw next.length aw, .slice Bw head.length bw, .slice Dw tail.length dw] 24)) wr)) (fun t _ => N1.length - (intOf t).toNat)
  case atStart => exact ⟨0, Nat.zero_le _, rfl, Lib.hid ⟨N1, rfl, OA.out, KA.out, BU.out⟩⟩
  case round =>
    obtain ⟨q, hq, rfl, HR⟩ := hrel
    obtain ⟨l, hl, ho, hk, hb⟩ := HR.out
    by_cases hlt : q < N1.length
    · obtain ⟨gB, rfl, hgB, -, -, -⟩ := ho.form (by omega)
      obtain ⟨cB, fB⟩ := ho.at_ (j := q) (by omega)
      obtain ⟨y, hy⟩ : ∃ y, nth l q = y := ⟨_, rfl⟩
      rw [hy] at cB
      have c0 := hk.e0
      have hne := ho.ne_bk hk (by decide)
      have HR2 : Hid (∃ l : List Int, l.length = N1.length ∧ OwnI 3 (wr.setCell ⟨gB, q, none⟩ (.int .i64 (wrap64 (y + 1)))) (w3.alloc (.cells #[.slice Aw next.length aw, .slice Bw head.length bw, .slice Dw tail.length dw] 24)).heap.size (some ⟨gB, 0, none⟩) aa1 l ∧ Bk (wr.setCell ⟨gB, q, none⟩ (.int .i64 (wrap64 (y + 1)))) w4.heap.size 24 #[.slice (some ⟨gB, 0, none⟩) N1.length aa1, .slice Ba1 H1.length ba1, .slice Da1 T1.length da1] ∧ Below (w3.alloc (.cells #[.slice Aw next.length aw, .slice Bw head.length bw, .slice Dw tail.length dw] 24)).heap.size (w3.alloc (.cells #[.slice Aw next.length aw, .slice Bw head.length bw, .slice Dw tail.length dw] 24)) (wr.setCell ⟨gB, q, none⟩ (.int .i64 (wrap64 (y + 1))))) :=
        Lib.hid ⟨l.set q (wrap64 (y + 1)), (List.length_set ..).trans hl, ho.set_ q (fit_wrap64 _), hk.far hne _, hb.setCell hgB _⟩
      clear ho hk hb hy HR hne
      go_wp2
      go_roundw
      case rel => exact ⟨q + 1, by omega, by go_num, HR2⟩
      case measure => simp [intOf]; omega
    · have VS2 := Lib.hid (VS.out.below hb)
      have VW2 := Lib.hid (VW.out.below hb)
      have k5 := VKC.out.below hb VKC.out.lt
      have kw := VKW.out.below hb VKW.out.lt
      have BW := Lib.hid (below3 VB.out hb)
      have a0 := k5.e0
      have a1 := k5.e1
      have a2 := k5.e2
      have d0 := kw.e0
      have d1 := kw.e1
      have d2 := kw.e2
      clear ho hk hb HR k5 kw
      go_wp2_with fail
      refine (rsame_yes A B D Aw Bw Dw next.length a head.length b tail.length d aw bw dw next head tail _ VS2.out VW2.out).mono ?_
      rintro e wz ⟨rfl, hbz⟩
      have BZ := Lib.hid (below3 BW.out hbz)
      clear hbz a0 a1 a2 d0 d1 d2
      go_wp2
      go_ret
      exact ⟨rfl, BZ.out⟩

theorem lmoves_any (A B D : Option Addr) (n a m b k d : Nat) (next head tail : List Int) (list node tu : Int) (w : World) (hn : n ≤ 9223372036854775807) (hm : m ≤ 9223372036854775807) (hk : k ≤ 9223372036854775807) (hp : n ≤ 2000 → m ≤ 2000 → k ≤ 2000 → Chn w A n B m D k next head tail) :
    Calls Try.prog 3 #[.agg #[.slice A n a, .slice B m b, .slice D k d], .int .i64 list, .int .i64 node, .int .i64 tu] w (TrueAns w) := by
  cases hf : fewB n m k with
  | false => exact lmoves_long A B D n a m b k d list node tu w hn hm hk hf
  | true =>
    obtain ⟨h1, h2, h3⟩ := fewB_true hf
    exact lmoves_main A B D n a m b k d next head tail list node tu w hf (hp (by omega) (by omega) (by omega))

end Go.Proofs.Ytiheeehegjfmgaa

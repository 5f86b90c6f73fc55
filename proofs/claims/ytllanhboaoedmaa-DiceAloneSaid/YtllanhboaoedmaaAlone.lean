/-
  The walk of the law DiceAlone of layer 3: what is drawn hangs on the octets from At on alone.
-/
import Derived.Test.YtllanhboaoedmaaLHeavy
namespace Go.Proofs.Ytllanhboaoedmaa
open Go.RowKit

theorem below_0 (A : Option Addr) (n c : Nat) (bs : List Int) (m x : Int) (q : Nat) (w : World) (ho : Octs w A n bs) (hm : 1 ≤ m) (hM : m ≤ 65536) (hx : drawAt bs 0 % m = x) (hq : min 2 n = q) :
    Calls Try.prog 10 #[.agg #[.slice A n c, .int .i64 0], .int .i64 m] w (TripN (.int .i64 x) bs n q w) :=
  (below_at A n c 0 0 bs m x w rfl ho (Nat.zero_le _) hm hM hx).mono fun _ _ h => h.plain ho.1 rfl (by omega)

theorem below_b (A : Option Addr) (a n c : Nat) (cs bs : List Int) (m x : Int) (q : Nat) (w : World) (ho : Octs w A (a + n) (cs ++ bs)) (ha : cs.length = a) (hm : 1 ≤ m) (hM : m ≤ 65536) (hx : drawAt bs 0 % m = x) (hq : min 2 n = q) :
    Calls Try.prog 10 #[.agg #[.slice A (a + n) c, .int .i64 (a : Int)], .int .i64 m] w (TripN (.int .i64 x) (cs ++ bs) (a + n) (a + q) w) := by
  have e : drawAt (cs ++ bs) a = drawAt bs 0 := by
    have := draw_behind cs bs 0
    rwa [Nat.add_zero, ha] at this
  exact (below_at A (a + n) c a a (cs ++ bs) m x w rfl ho (by omega) hm hM (by rw [e]; exact hx)).mono fun _ _ h => h.plain ho.1 rfl (by omega)

/-- A value, dice, whatever they are, no error are handed back. -/
def TripQ (k : Value) (w : World) (e : Ending) (w' : World) : Prop :=
  ∃ A n c q, e = .returned (.tuple #[k, .agg #[.slice A n c, .int .i64 q], .int .i64 0]) ∧ Below w.heap.size w w'

/-- An order, dice, whatever they are, no error are handed back. -/
def OrdQ (l : List Int) (n : Nat) (w : World) (e : Ending) (w' : World) : Prop :=
  ∃ A N c q B d, e = .returned (.tuple #[.slice B n d, .agg #[.slice A N c, .int .i64 q], .int .i64 0]) ∧ Ints w' B n l ∧ Below w.heap.size w w'

theorem order_0 (A : Option Addr) (N c : Nat) (bs : List Int) (n : Nat) (w : World) (ho : Octs w A N bs) (hn : n ≤ 256) :
    Calls Try.prog 12 #[.agg #[.slice A N c, .int .i64 0], .int .i64 (n : Int)] w (OrdQ (orderOf bs 0 n) n w) :=
  (order_N A N c 0 n bs w ho (Nat.zero_le _) hn).mono fun _ _ ⟨A, c, B, d, h1, h2, _, h3⟩ => ⟨A, N, c, _, B, d, h1, h2, h3⟩

theorem order_b (A : Option Addr) (a N c : Nat) (cs bs : List Int) (n : Nat) (w : World) (ho : Octs w A (a + N) (cs ++ bs)) (ha : cs.length = a) (hn : n ≤ 256) :
    Calls Try.prog 12 #[.agg #[.slice A (a + N) c, .int .i64 (a : Int)], .int .i64 (n : Int)] w (OrdQ (orderOf bs 0 n) n w) := by
  have h := order_N A (a + N) c a n (cs ++ bs) w ho (by omega) hn
  have e : orderOf (cs ++ bs) a n = orderOf bs 0 n := by
    have := order_behind cs bs n
    rwa [ha] at this
  rw [e] at h
  exact h.mono fun _ _ ⟨A, c, B, d, h1, h2, _, h3⟩ => ⟨A, a + N, c, _, B, d, h1, h2, h3⟩

theorem heavy_0 (A B : Option Addr) (N c m d : Nat) (bs ws : List Int) (x : Int) (w : World) (ho : Octs w A N bs) (hw : Ints w B m ws) (hE : weightE ws = 0) (hx : (pick ws (drawAt bs 0 % ws.sum) : Int) = x) :
    Calls Try.prog 14 #[.agg #[.slice A N c, .int .i64 0], .slice B m d] w (TripQ (.int .i64 x) w) :=
  (heavy_at A B N c 0 m d 0 x bs ws w rfl ho (Nat.zero_le _) hw hE hx).mono fun _ _ ⟨A, c, h1, _, h3⟩ => ⟨A, _, c, _, h1, h3⟩

theorem heavy_b (A B : Option Addr) (a N c m d : Nat) (cs bs ws : List Int) (x : Int) (w : World) (ho : Octs w A (a + N) (cs ++ bs)) (ha : cs.length = a) (hw : Ints w B m ws) (hE : weightE ws = 0) (hx : (pick ws (drawAt bs 0 % ws.sum) : Int) = x) :
    Calls Try.prog 14 #[.agg #[.slice A (a + N) c, .int .i64 (a : Int)], .slice B m d] w (TripQ (.int .i64 x) w) := by
  have e : drawAt (cs ++ bs) a = drawAt bs 0 := by
    have := draw_behind cs bs 0
    rwa [Nat.add_zero, ha] at this
  exact (heavy_at A B (a + N) c a m d a x (cs ++ bs) ws w rfl ho (by omega) hw hE (by rw [e]; exact hx)).mono fun _ _ ⟨A, c, h1, _, h3⟩ => ⟨A, _, c, _, h1, h3⟩

set_option maxRecDepth 100000 in
set_option maxHeartbeats 2000000 in
theorem alone_big (A0 A1 B : Option Addr) (n0 c0 n1 c1 k d : Nat) (m n : Int) (w : World) (h0 : n0 ≤ 9223372036854775807) (h1 : n1 ≤ 9223372036854775807) (hk : k * 8 ≤ 140737488351232) (h : 300 < n0 ∨ 300 < n1 ∨ 300 < k) :
    Calls Try.prog 5 #[.slice A0 n0 c0, .slice A1 n1 c1, .int .i64 m, .int .i64 n, .slice B k d] w (TrueAns w) := by
  by_cases g1 : 300 < n0
  · go_enter Try.func5, Try.ntmps5
    go_wp2_with fail
    refine (live_any _).mono ?_
    rintro e w1 ⟨rfl, hb1⟩
    have HB := Lib.hid hb1
    clear hb1
    go_wp2
    go_ret
    exact ⟨rfl, HB.out⟩
  · by_cases g2 : 300 < n1
    all_goals
      go_enter Try.func5, Try.ntmps5
      go_wp2_with fail
      refine (live_any _).mono ?_
      rintro e w1 ⟨rfl, hb1⟩
      have HB := Lib.hid hb1
      clear hb1
      go_wp2
      go_ret
      exact ⟨rfl, HB.out⟩

set_option maxRecDepth 100000 in
set_option maxHeartbeats 4000000 in
theorem alone_111 (A0 A1 B : Option Addr) (n0 c0 n1 c1 k d : Nat) (m : Int) (n : Nat) (cs bs ws : List Int) (w : World) (ha : Octs w A0 n0 cs) (hl : Octs w A1 n1 bs) (hw : Ints w B k ws) (h0 : n0 ≤ 300) (h1 : n1 ≤ 300) (hk : k ≤ 300) (hm : 1 ≤ m ∧ m ≤ 65536) (hn : n ≤ 256) (hg : weightE ws = 0) :
    Calls Try.prog 5 #[.slice A0 n0 c0, .slice A1 n1 c1, .int .i64 m, .int .i64 (n : Int), .slice B k d] w (TrueAns w) := by
  have O_a := Lib.hid ha
  have O_l := Lib.hid hl
  have O_w := Lib.hid hw
  have BB := Lib.hid (Below.refl w.heap.size w)
  have HM := Lib.hid hm
  have HN := Lib.hid hn
  have HG := Lib.hid hg
  have HA := Lib.hid ha.1
  have HL := Lib.hid (show (cs ++ bs).length = n0 + n1 by rw [List.length_append, ha.1, hl.1])
  obtain ⟨z, hz⟩ : ∃ z : Int, (pick ws (drawAt bs 0 % ws.sum) : Int) = z := ⟨_, rfl⟩
  have HZ := Lib.hid hz
  clear hz
  obtain ⟨x, hx⟩ : ∃ x, drawAt bs 0 % m = x := ⟨_, rfl⟩
  have HX := Lib.hid hx
  clear hx
  obtain ⟨q, hq⟩ : ∃ q, min 2 n1 = q := ⟨_, rfl⟩
  have hq2 : q ≤ 2 := by omega
  have HQ := Lib.hid hq
  clear hq
  clear ha hl hw hm hg
  go_enter Try.func5, Try.ntmps5
  go_wp2_with fail
  refine (live_any _).mono ?_
  rintro e w1 ⟨rfl, hb⟩
  have ha := hb.alloc hb.size (.cells #[.slice A1 n1 c1, .int .i64 0] 24)
  have han := (Below.refl w1.heap.size w1).alloc (Nat.le_refl _) (.cells #[.slice A1 n1 c1, .int .i64 0] 24)
  replace O_a := Lib.hid (O_a.out.below ha)
  replace O_l := Lib.hid (O_l.out.below ha)
  replace O_w := Lib.hid (O_w.out.below ha)
  replace BB := Lib.hid (below3 BB.out ha)
  have K_d := Lib.hid (Bk.new w1 24 #[.slice A1 n1 c1, .int .i64 0])
  clear ha hb han
  have HQ1 := Lib.hid (size_alloc w1 (.cells #[.slice A1 n1 c1, .int .i64 0] 24))
  go_wp2_with (first
    | (at_builtin
       refine wpList_append_octs _ rfl _ _ 22 rfl 5 Try.underlying22 Try.octetInfo (w1.heap.size + 1) none 0 [] 0 rfl rfl (OwnO.nil_ _ _ _) A0 n0 c0 cs rfl O_a.out (by simp; omega) (by rw [HQ1.out]; exact Nat.le_refl _) ?_
       intro X2 d2 w2 hown2 hg2
       simp only [List.nil_append] at hown2 ⊢
       rw [HA.out]
       have P2 := Lib.hid hown2
       have G2 := Lib.hid hg2
       have O_l2 := Lib.hid (O_l.out.below ((Below.refl _ _).grown hg2 (Nat.le_refl _) (by simp [Value.ownBlock])))
       have z2 := Lib.hid (Nat.le_trans (Nat.le_of_eq HQ1.out.symm) hg2.size)
       clear hown2 hg2)
    | (at_builtin
       refine wpList_append_octs _ rfl _ _ 22 rfl 5 Try.underlying22 Try.octetInfo (w1.heap.size + 1) X2 d2 cs n0 HA.out.symm rfl P2.out A1 n1 c1 bs rfl O_l2.out (by rw [HA.out]; omega) z2.out ?_
       intro X3 d3 w3 hown3 hg3
       rw [HL.out]
       have hb : Below (w1.alloc (.cells #[.slice A1 n1 c1, .int .i64 0] 24)).heap.size (w1.alloc (.cells #[.slice A1 n1 c1, .int .i64 0] 24)) w3 := ((Below.refl _ _).grown G2.out (Nat.le_refl _) (by simp [Value.ownBlock])).grown hg3 (by rw [HQ1.out]; exact z2.out) (by intro j hj; rw [HQ1.out]; exact P2.out.block j hj)
       have ho3 : Octs w3 X3 (n0 + n1) (cs ++ bs) := by have := hown3.octs; rwa [HL.out] at this
       clear hown3 hg3
       have ha := hb.alloc hb.size (.cells #[.slice X3 (n0 + n1) d3, .int .i64 (n0 : Int)] 24)
       have han := (Below.refl w3.heap.size w3).alloc (Nat.le_refl _) (.cells #[.slice X3 (n0 + n1) d3, .int .i64 (n0 : Int)] 24)
       replace K_d := Lib.hid (K_d.out.below ha K_d.out.lt)
       replace O_a := Lib.hid (O_a.out.below ha)
       replace O_l := Lib.hid (O_l.out.below ha)
       replace O_w := Lib.hid (O_w.out.below ha)
       replace BB := Lib.hid (below3 BB.out ha)
       have O_o := Lib.hid (ho3.below han)
       have K_o := Lib.hid (Bk.new w3 24 #[.slice X3 (n0 + n1) d3, .int .i64 (n0 : Int)])
       clear ha hb han ho3
       have a_d := K_d.out.c0
       have b_d := K_d.out.c1)
    | fail)
  skip
  refine (below_0 A1 n1 c1 bs m x q _ O_l.out HM.out.1 HM.out.2 HX.out HQ.out).mono ?_
  rintro e w4 ⟨Ax, cx, rfl, hx, hb⟩
  clear a_d b_d
  have ha := hb.alloc hb.size (.cells #[.slice Ax n1 cx, .int .i64 (q : Int)] 24)
  have han := (Below.refl w4.heap.size w4).alloc (Nat.le_refl _) (.cells #[.slice Ax n1 cx, .int .i64 (q : Int)] 24)
  replace K_d := Lib.hid (K_d.out.below ha K_d.out.lt)
  replace K_o := Lib.hid (K_o.out.below ha K_o.out.lt)
  replace O_a := Lib.hid (O_a.out.below ha)
  replace O_l := Lib.hid (O_l.out.below ha)
  replace O_w := Lib.hid (O_w.out.below ha)
  replace O_o := Lib.hid (O_o.out.below ha)
  replace BB := Lib.hid (below3 BB.out ha)
  have K_x := Lib.hid (Bk.new w4 24 #[.slice Ax n1 cx, .int .i64 (q : Int)])
  clear ha hb han
  have a_o := K_o.out.c0
  have b_o := K_o.out.c1
  go_wp2_with fail
  refine (below_b X3 n0 n1 d3 cs bs m x q _ O_o.out HA.out HM.out.1 HM.out.2 HX.out HQ.out).mono ?_
  rintro e w5 ⟨Ay, cy, rfl, hy, hb⟩
  clear a_o b_o
  have ha := hb.alloc hb.size (.cells #[.slice Ay (n0 + n1) cy, .int .i64 ((n0 : Int) + (q : Int))] 24)
  have han := (Below.refl w5.heap.size w5).alloc (Nat.le_refl _) (.cells #[.slice Ay (n0 + n1) cy, .int .i64 ((n0 : Int) + (q : Int))] 24)
  replace K_d := Lib.hid (K_d.out.below ha K_d.out.lt)
  replace K_o := Lib.hid (K_o.out.below ha K_o.out.lt)
  replace K_x := Lib.hid (K_x.out.below ha K_x.out.lt)
  replace O_a := Lib.hid (O_a.out.below ha)
  replace O_l := Lib.hid (O_l.out.below ha)
  replace O_w := Lib.hid (O_w.out.below ha)
  replace O_o := Lib.hid (O_o.out.below ha)
  replace BB := Lib.hid (below3 BB.out ha)
  have K_y := Lib.hid (Bk.new w5 24 #[.slice Ay (n0 + n1) cy, .int .i64 ((n0 : Int) + (q : Int))])
  clear ha hb han
  have a_d := K_d.out.c0
  have b_d := K_d.out.c1
  go_wp2_with fail
  refine (order_0 A1 n1 c1 bs n _ O_l.out HN.out).mono ?_
  rintro e w6 ⟨Ap, np, cp, pq, Bp, dp, rfl, hp, hb⟩
  clear a_d b_d
  have ha := hb.alloc hb.size (.cells #[.slice Ap np cp, .int .i64 pq] 24)
  have han := (Below.refl w6.heap.size w6).alloc (Nat.le_refl _) (.cells #[.slice Ap np cp, .int .i64 pq] 24)
  replace K_d := Lib.hid (K_d.out.below ha K_d.out.lt)
  replace K_o := Lib.hid (K_o.out.below ha K_o.out.lt)
  replace K_x := Lib.hid (K_x.out.below ha K_x.out.lt)
  replace K_y := Lib.hid (K_y.out.below ha K_y.out.lt)
  replace O_a := Lib.hid (O_a.out.below ha)
  replace O_l := Lib.hid (O_l.out.below ha)
  replace O_w := Lib.hid (O_w.out.below ha)
  replace O_o := Lib.hid (O_o.out.below ha)
  replace BB := Lib.hid (below3 BB.out ha)
  have O_p := Lib.hid (hp.below han)
  have K_p := Lib.hid (Bk.new w6 24 #[.slice Ap np cp, .int .i64 pq])
  clear ha hb han hp
  have a_o := K_o.out.c0
  have b_o := K_o.out.c1
  go_wp2_with fail
  refine (order_b X3 n0 n1 d3 cs bs n _ O_o.out HA.out HN.out).mono ?_
  rintro e w7 ⟨Aq, nq, cq, qq, Bq, dq, rfl, hq, hb⟩
  clear a_o b_o
  have ha := hb.alloc hb.size (.cells #[.slice Aq nq cq, .int .i64 qq] 24)
  have han := (Below.refl w7.heap.size w7).alloc (Nat.le_refl _) (.cells #[.slice Aq nq cq, .int .i64 qq] 24)
  replace K_d := Lib.hid (K_d.out.below ha K_d.out.lt)
  replace K_o := Lib.hid (K_o.out.below ha K_o.out.lt)
  replace K_x := Lib.hid (K_x.out.below ha K_x.out.lt)
  replace K_y := Lib.hid (K_y.out.below ha K_y.out.lt)
  replace K_p := Lib.hid (K_p.out.below ha K_p.out.lt)
  replace O_a := Lib.hid (O_a.out.below ha)
  replace O_l := Lib.hid (O_l.out.below ha)
  replace O_w := Lib.hid (O_w.out.below ha)
  replace O_o := Lib.hid (O_o.out.below ha)
  replace O_p := Lib.hid (O_p.out.below ha)
  replace BB := Lib.hid (below3 BB.out ha)
  have O_q := Lib.hid (hq.below han)
  have K_q := Lib.hid (Bk.new w7 24 #[.slice Aq nq cq, .int .i64 qq])
  clear ha hb han hq
  have a_d := K_d.out.c0
  have b_d := K_d.out.c1
  go_wp2_with fail
  refine (heavy_0 A1 B n1 c1 k d bs ws z _ O_l.out O_w.out HG.out HZ.out).mono ?_
  rintro e w8 ⟨As, ns, cs2, sq, rfl, hb⟩
  clear a_d b_d
  have ha := hb.alloc hb.size (.cells #[.slice As ns cs2, .int .i64 sq] 24)
  have han := (Below.refl w8.heap.size w8).alloc (Nat.le_refl _) (.cells #[.slice As ns cs2, .int .i64 sq] 24)
  replace K_d := Lib.hid (K_d.out.below ha K_d.out.lt)
  replace K_o := Lib.hid (K_o.out.below ha K_o.out.lt)
  replace K_x := Lib.hid (K_x.out.below ha K_x.out.lt)
  replace K_y := Lib.hid (K_y.out.below ha K_y.out.lt)
  replace K_p := Lib.hid (K_p.out.below ha K_p.out.lt)
  replace K_q := Lib.hid (K_q.out.below ha K_q.out.lt)
  replace O_a := Lib.hid (O_a.out.below ha)
  replace O_l := Lib.hid (O_l.out.below ha)
  replace O_w := Lib.hid (O_w.out.below ha)
  replace O_o := Lib.hid (O_o.out.below ha)
  replace O_p := Lib.hid (O_p.out.below ha)
  replace O_q := Lib.hid (O_q.out.below ha)
  replace BB := Lib.hid (below3 BB.out ha)
  have K_s := Lib.hid (Bk.new w8 24 #[.slice As ns cs2, .int .i64 sq])
  clear ha hb han
  have a_o := K_o.out.c0
  have b_o := K_o.out.c1
  go_wp2_with fail
  refine (heavy_b X3 B n0 n1 d3 k d cs bs ws z _ O_o.out HA.out O_w.out HG.out HZ.out).mono ?_
  rintro e w9 ⟨At, nt, ct, tq, rfl, hb⟩
  clear a_o b_o
  have ha := hb.alloc hb.size (.cells #[.slice At nt ct, .int .i64 tq] 24)
  have han := (Below.refl w9.heap.size w9).alloc (Nat.le_refl _) (.cells #[.slice At nt ct, .int .i64 tq] 24)
  replace K_d := Lib.hid (K_d.out.below ha K_d.out.lt)
  replace K_o := Lib.hid (K_o.out.below ha K_o.out.lt)
  replace K_x := Lib.hid (K_x.out.below ha K_x.out.lt)
  replace K_y := Lib.hid (K_y.out.below ha K_y.out.lt)
  replace K_p := Lib.hid (K_p.out.below ha K_p.out.lt)
  replace K_q := Lib.hid (K_q.out.below ha K_q.out.lt)
  replace K_s := Lib.hid (K_s.out.below ha K_s.out.lt)
  replace O_a := Lib.hid (O_a.out.below ha)
  replace O_l := Lib.hid (O_l.out.below ha)
  replace O_w := Lib.hid (O_w.out.below ha)
  replace O_o := Lib.hid (O_o.out.below ha)
  replace O_p := Lib.hid (O_p.out.below ha)
  replace O_q := Lib.hid (O_q.out.below ha)
  replace BB := Lib.hid (below3 BB.out ha)
  have K_t := Lib.hid (Bk.new w9 24 #[.slice At nt ct, .int .i64 tq])
  clear ha hb han
  have a_x := K_x.out.c0
  have b_x := K_x.out.c1
  have a_y := K_y.out.c0
  have b_y := K_y.out.c1
  go_wp2_with fail
  refine (sameInts_yes _ _ n _ _ _ _ O_p.out O_q.out).mono ?_
  rintro e w10 ⟨rfl, hb⟩
  clear a_x b_x a_y b_y
  have ha := hb
  replace K_d := Lib.hid (K_d.out.below ha K_d.out.lt)
  replace K_o := Lib.hid (K_o.out.below ha K_o.out.lt)
  replace K_x := Lib.hid (K_x.out.below ha K_x.out.lt)
  replace K_y := Lib.hid (K_y.out.below ha K_y.out.lt)
  replace K_p := Lib.hid (K_p.out.below ha K_p.out.lt)
  replace K_q := Lib.hid (K_q.out.below ha K_q.out.lt)
  replace K_s := Lib.hid (K_s.out.below ha K_s.out.lt)
  replace K_t := Lib.hid (K_t.out.below ha K_t.out.lt)
  replace O_a := Lib.hid (O_a.out.below ha)
  replace O_l := Lib.hid (O_l.out.below ha)
  replace O_w := Lib.hid (O_w.out.below ha)
  replace O_o := Lib.hid (O_o.out.below ha)
  replace O_p := Lib.hid (O_p.out.below ha)
  replace O_q := Lib.hid (O_q.out.below ha)
  replace BB := Lib.hid (below3 BB.out ha)
  clear ha hb
  go_wp2
  go_ret
  exact ⟨rfl, BB.out⟩

set_option maxRecDepth 100000 in
set_option maxHeartbeats 4000000 in
theorem alone_110 (A0 A1 B : Option Addr) (n0 c0 n1 c1 k d : Nat) (m : Int) (n : Nat) (cs bs ws : List Int) (w : World) (ha : Octs w A0 n0 cs) (hl : Octs w A1 n1 bs) (hw : Ints w B k ws) (h0 : n0 ≤ 300) (h1 : n1 ≤ 300) (hk : k ≤ 300) (hm : 1 ≤ m ∧ m ≤ 65536) (hn : n ≤ 256) (hg : weightE ws ≠ 0) :
    Calls Try.prog 5 #[.slice A0 n0 c0, .slice A1 n1 c1, .int .i64 m, .int .i64 (n : Int), .slice B k d] w (TrueAns w) := by
  have O_a := Lib.hid ha
  have O_l := Lib.hid hl
  have O_w := Lib.hid hw
  have BB := Lib.hid (Below.refl w.heap.size w)
  have HM := Lib.hid hm
  have HN := Lib.hid hn
  have HG := Lib.hid hg
  have HA := Lib.hid ha.1
  have HL := Lib.hid (show (cs ++ bs).length = n0 + n1 by rw [List.length_append, ha.1, hl.1])
  obtain ⟨E, hE⟩ : ∃ E, weightE ws = E := ⟨_, rfl⟩
  have hE0 : E ≠ 0 := hE ▸ hg
  have HE := Lib.hid hE
  clear hE
  obtain ⟨x, hx⟩ : ∃ x, drawAt bs 0 % m = x := ⟨_, rfl⟩
  have HX := Lib.hid hx
  clear hx
  obtain ⟨q, hq⟩ : ∃ q, min 2 n1 = q := ⟨_, rfl⟩
  have hq2 : q ≤ 2 := by omega
  have HQ := Lib.hid hq
  clear hq
  clear ha hl hw hm hg
  go_enter Try.func5, Try.ntmps5
  go_wp2_with fail
  refine (live_any _).mono ?_
  rintro e w1 ⟨rfl, hb⟩
  have ha := hb.alloc hb.size (.cells #[.slice A1 n1 c1, .int .i64 0] 24)
  have han := (Below.refl w1.heap.size w1).alloc (Nat.le_refl _) (.cells #[.slice A1 n1 c1, .int .i64 0] 24)
  replace O_a := Lib.hid (O_a.out.below ha)
  replace O_l := Lib.hid (O_l.out.below ha)
  replace O_w := Lib.hid (O_w.out.below ha)
  replace BB := Lib.hid (below3 BB.out ha)
  have K_d := Lib.hid (Bk.new w1 24 #[.slice A1 n1 c1, .int .i64 0])
  clear ha hb han
  have HQ1 := Lib.hid (size_alloc w1 (.cells #[.slice A1 n1 c1, .int .i64 0] 24))
  go_wp2_with (first
    | (at_builtin
       refine wpList_append_octs _ rfl _ _ 22 rfl 5 Try.underlying22 Try.octetInfo (w1.heap.size + 1) none 0 [] 0 rfl rfl (OwnO.nil_ _ _ _) A0 n0 c0 cs rfl O_a.out (by simp; omega) (by rw [HQ1.out]; exact Nat.le_refl _) ?_
       intro X2 d2 w2 hown2 hg2
       simp only [List.nil_append] at hown2 ⊢
       rw [HA.out]
       have P2 := Lib.hid hown2
       have G2 := Lib.hid hg2
       have O_l2 := Lib.hid (O_l.out.below ((Below.refl _ _).grown hg2 (Nat.le_refl _) (by simp [Value.ownBlock])))
       have z2 := Lib.hid (Nat.le_trans (Nat.le_of_eq HQ1.out.symm) hg2.size)
       clear hown2 hg2)
    | (at_builtin
       refine wpList_append_octs _ rfl _ _ 22 rfl 5 Try.underlying22 Try.octetInfo (w1.heap.size + 1) X2 d2 cs n0 HA.out.symm rfl P2.out A1 n1 c1 bs rfl O_l2.out (by rw [HA.out]; omega) z2.out ?_
       intro X3 d3 w3 hown3 hg3
       rw [HL.out]
       have hb : Below (w1.alloc (.cells #[.slice A1 n1 c1, .int .i64 0] 24)).heap.size (w1.alloc (.cells #[.slice A1 n1 c1, .int .i64 0] 24)) w3 := ((Below.refl _ _).grown G2.out (Nat.le_refl _) (by simp [Value.ownBlock])).grown hg3 (by rw [HQ1.out]; exact z2.out) (by intro j hj; rw [HQ1.out]; exact P2.out.block j hj)
       have ho3 : Octs w3 X3 (n0 + n1) (cs ++ bs) := by have := hown3.octs; rwa [HL.out] at this
       clear hown3 hg3
       have ha := hb.alloc hb.size (.cells #[.slice X3 (n0 + n1) d3, .int .i64 (n0 : Int)] 24)
       have han := (Below.refl w3.heap.size w3).alloc (Nat.le_refl _) (.cells #[.slice X3 (n0 + n1) d3, .int .i64 (n0 : Int)] 24)
       replace K_d := Lib.hid (K_d.out.below ha K_d.out.lt)
       replace O_a := Lib.hid (O_a.out.below ha)
       replace O_l := Lib.hid (O_l.out.below ha)
       replace O_w := Lib.hid (O_w.out.below ha)
       replace BB := Lib.hid (below3 BB.out ha)
       have O_o := Lib.hid (ho3.below han)
       have K_o := Lib.hid (Bk.new w3 24 #[.slice X3 (n0 + n1) d3, .int .i64 (n0 : Int)])
       clear ha hb han ho3
       have a_d := K_d.out.c0
       have b_d := K_d.out.c1)
    | fail)
  skip
  refine (below_0 A1 n1 c1 bs m x q _ O_l.out HM.out.1 HM.out.2 HX.out HQ.out).mono ?_
  rintro e w4 ⟨Ax, cx, rfl, hx, hb⟩
  clear a_d b_d
  have ha := hb.alloc hb.size (.cells #[.slice Ax n1 cx, .int .i64 (q : Int)] 24)
  have han := (Below.refl w4.heap.size w4).alloc (Nat.le_refl _) (.cells #[.slice Ax n1 cx, .int .i64 (q : Int)] 24)
  replace K_d := Lib.hid (K_d.out.below ha K_d.out.lt)
  replace K_o := Lib.hid (K_o.out.below ha K_o.out.lt)
  replace O_a := Lib.hid (O_a.out.below ha)
  replace O_l := Lib.hid (O_l.out.below ha)
  replace O_w := Lib.hid (O_w.out.below ha)
  replace O_o := Lib.hid (O_o.out.below ha)
  replace BB := Lib.hid (below3 BB.out ha)
  have K_x := Lib.hid (Bk.new w4 24 #[.slice Ax n1 cx, .int .i64 (q : Int)])
  clear ha hb han
  have a_o := K_o.out.c0
  have b_o := K_o.out.c1
  go_wp2_with fail
  refine (below_b X3 n0 n1 d3 cs bs m x q _ O_o.out HA.out HM.out.1 HM.out.2 HX.out HQ.out).mono ?_
  rintro e w5 ⟨Ay, cy, rfl, hy, hb⟩
  clear a_o b_o
  have ha := hb.alloc hb.size (.cells #[.slice Ay (n0 + n1) cy, .int .i64 ((n0 : Int) + (q : Int))] 24)
  have han := (Below.refl w5.heap.size w5).alloc (Nat.le_refl _) (.cells #[.slice Ay (n0 + n1) cy, .int .i64 ((n0 : Int) + (q : Int))] 24)
  replace K_d := Lib.hid (K_d.out.below ha K_d.out.lt)
  replace K_o := Lib.hid (K_o.out.below ha K_o.out.lt)
  replace K_x := Lib.hid (K_x.out.below ha K_x.out.lt)
  replace O_a := Lib.hid (O_a.out.below ha)
  replace O_l := Lib.hid (O_l.out.below ha)
  replace O_w := Lib.hid (O_w.out.below ha)
  replace O_o := Lib.hid (O_o.out.below ha)
  replace BB := Lib.hid (below3 BB.out ha)
  have K_y := Lib.hid (Bk.new w5 24 #[.slice Ay (n0 + n1) cy, .int .i64 ((n0 : Int) + (q : Int))])
  clear ha hb han
  have a_d := K_d.out.c0
  have b_d := K_d.out.c1
  go_wp2_with fail
  refine (order_0 A1 n1 c1 bs n _ O_l.out HN.out).mono ?_
  rintro e w6 ⟨Ap, np, cp, pq, Bp, dp, rfl, hp, hb⟩
  clear a_d b_d
  have ha := hb.alloc hb.size (.cells #[.slice Ap np cp, .int .i64 pq] 24)
  have han := (Below.refl w6.heap.size w6).alloc (Nat.le_refl _) (.cells #[.slice Ap np cp, .int .i64 pq] 24)
  replace K_d := Lib.hid (K_d.out.below ha K_d.out.lt)
  replace K_o := Lib.hid (K_o.out.below ha K_o.out.lt)
  replace K_x := Lib.hid (K_x.out.below ha K_x.out.lt)
  replace K_y := Lib.hid (K_y.out.below ha K_y.out.lt)
  replace O_a := Lib.hid (O_a.out.below ha)
  replace O_l := Lib.hid (O_l.out.below ha)
  replace O_w := Lib.hid (O_w.out.below ha)
  replace O_o := Lib.hid (O_o.out.below ha)
  replace BB := Lib.hid (below3 BB.out ha)
  have O_p := Lib.hid (hp.below han)
  have K_p := Lib.hid (Bk.new w6 24 #[.slice Ap np cp, .int .i64 pq])
  clear ha hb han hp
  have a_o := K_o.out.c0
  have b_o := K_o.out.c1
  go_wp2_with fail
  refine (order_b X3 n0 n1 d3 cs bs n _ O_o.out HA.out HN.out).mono ?_
  rintro e w7 ⟨Aq, nq, cq, qq, Bq, dq, rfl, hq, hb⟩
  clear a_o b_o
  have ha := hb.alloc hb.size (.cells #[.slice Aq nq cq, .int .i64 qq] 24)
  have han := (Below.refl w7.heap.size w7).alloc (Nat.le_refl _) (.cells #[.slice Aq nq cq, .int .i64 qq] 24)
  replace K_d := Lib.hid (K_d.out.below ha K_d.out.lt)
  replace K_o := Lib.hid (K_o.out.below ha K_o.out.lt)
  replace K_x := Lib.hid (K_x.out.below ha K_x.out.lt)
  replace K_y := Lib.hid (K_y.out.below ha K_y.out.lt)
  replace K_p := Lib.hid (K_p.out.below ha K_p.out.lt)
  replace O_a := Lib.hid (O_a.out.below ha)
  replace O_l := Lib.hid (O_l.out.below ha)
  replace O_w := Lib.hid (O_w.out.below ha)
  replace O_o := Lib.hid (O_o.out.below ha)
  replace O_p := Lib.hid (O_p.out.below ha)
  replace BB := Lib.hid (below3 BB.out ha)
  have O_q := Lib.hid (hq.below han)
  have K_q := Lib.hid (Bk.new w7 24 #[.slice Aq nq cq, .int .i64 qq])
  clear ha hb han hq
  have a_d := K_d.out.c0
  have b_d := K_d.out.c1
  go_wp2_with fail
  refine (heavy_no A1 B n1 c1 k d 0 ws E _ (by omega) (by omega) O_w.out HE.out hE0).mono ?_
  rintro e w8 ⟨As, cs2, rfl, -, hb⟩
  clear a_d b_d
  have ha := hb.alloc hb.size (.cells #[.slice As 0 cs2, .int .i64 0] 24)
  have han := (Below.refl w8.heap.size w8).alloc (Nat.le_refl _) (.cells #[.slice As 0 cs2, .int .i64 0] 24)
  replace K_d := Lib.hid (K_d.out.below ha K_d.out.lt)
  replace K_o := Lib.hid (K_o.out.below ha K_o.out.lt)
  replace K_x := Lib.hid (K_x.out.below ha K_x.out.lt)
  replace K_y := Lib.hid (K_y.out.below ha K_y.out.lt)
  replace K_p := Lib.hid (K_p.out.below ha K_p.out.lt)
  replace K_q := Lib.hid (K_q.out.below ha K_q.out.lt)
  replace O_a := Lib.hid (O_a.out.below ha)
  replace O_l := Lib.hid (O_l.out.below ha)
  replace O_w := Lib.hid (O_w.out.below ha)
  replace O_o := Lib.hid (O_o.out.below ha)
  replace O_p := Lib.hid (O_p.out.below ha)
  replace O_q := Lib.hid (O_q.out.below ha)
  replace BB := Lib.hid (below3 BB.out ha)
  have K_s := Lib.hid (Bk.new w8 24 #[.slice As 0 cs2, .int .i64 0])
  clear ha hb han
  have a_o := K_o.out.c0
  have b_o := K_o.out.c1
  go_wp2_with fail
  refine (heavy_no X3 B (n0 + n1) d3 k d n0 ws E _ (by omega) (by omega) O_w.out HE.out hE0).mono ?_
  rintro e w9 ⟨At, ct, rfl, -, hb⟩
  clear a_o b_o
  have ha := hb.alloc hb.size (.cells #[.slice At 0 ct, .int .i64 0] 24)
  have han := (Below.refl w9.heap.size w9).alloc (Nat.le_refl _) (.cells #[.slice At 0 ct, .int .i64 0] 24)
  replace K_d := Lib.hid (K_d.out.below ha K_d.out.lt)
  replace K_o := Lib.hid (K_o.out.below ha K_o.out.lt)
  replace K_x := Lib.hid (K_x.out.below ha K_x.out.lt)
  replace K_y := Lib.hid (K_y.out.below ha K_y.out.lt)
  replace K_p := Lib.hid (K_p.out.below ha K_p.out.lt)
  replace K_q := Lib.hid (K_q.out.below ha K_q.out.lt)
  replace K_s := Lib.hid (K_s.out.below ha K_s.out.lt)
  replace O_a := Lib.hid (O_a.out.below ha)
  replace O_l := Lib.hid (O_l.out.below ha)
  replace O_w := Lib.hid (O_w.out.below ha)
  replace O_o := Lib.hid (O_o.out.below ha)
  replace O_p := Lib.hid (O_p.out.below ha)
  replace O_q := Lib.hid (O_q.out.below ha)
  replace BB := Lib.hid (below3 BB.out ha)
  have K_t := Lib.hid (Bk.new w9 24 #[.slice At 0 ct, .int .i64 0])
  clear ha hb han
  have a_x := K_x.out.c0
  have b_x := K_x.out.c1
  have a_y := K_y.out.c0
  have b_y := K_y.out.c1
  go_wp2_with fail
  refine (sameInts_yes _ _ n _ _ _ _ O_p.out O_q.out).mono ?_
  rintro e w10 ⟨rfl, hb⟩
  clear a_x b_x a_y b_y
  have ha := hb
  replace K_d := Lib.hid (K_d.out.below ha K_d.out.lt)
  replace K_o := Lib.hid (K_o.out.below ha K_o.out.lt)
  replace K_x := Lib.hid (K_x.out.below ha K_x.out.lt)
  replace K_y := Lib.hid (K_y.out.below ha K_y.out.lt)
  replace K_p := Lib.hid (K_p.out.below ha K_p.out.lt)
  replace K_q := Lib.hid (K_q.out.below ha K_q.out.lt)
  replace K_s := Lib.hid (K_s.out.below ha K_s.out.lt)
  replace K_t := Lib.hid (K_t.out.below ha K_t.out.lt)
  replace O_a := Lib.hid (O_a.out.below ha)
  replace O_l := Lib.hid (O_l.out.below ha)
  replace O_w := Lib.hid (O_w.out.below ha)
  replace O_o := Lib.hid (O_o.out.below ha)
  replace O_p := Lib.hid (O_p.out.below ha)
  replace O_q := Lib.hid (O_q.out.below ha)
  replace BB := Lib.hid (below3 BB.out ha)
  clear ha hb
  go_wp2
  go_ret
  exact ⟨rfl, BB.out⟩

set_option maxRecDepth 100000 in
set_option maxHeartbeats 4000000 in
theorem alone_101 (A0 A1 B : Option Addr) (n0 c0 n1 c1 k d : Nat) (m : Int) (n : Int) (cs bs ws : List Int) (w : World) (ha : Octs w A0 n0 cs) (hl : Octs w A1 n1 bs) (hw : Ints w B k ws) (h0 : n0 ≤ 300) (h1 : n1 ≤ 300) (hk : k ≤ 300) (hm : 1 ≤ m ∧ m ≤ 65536) (hn : ¬ (0 ≤ n ∧ n ≤ 256)) (hg : weightE ws = 0) :
    Calls Try.prog 5 #[.slice A0 n0 c0, .slice A1 n1 c1, .int .i64 m, .int .i64 n, .slice B k d] w (TrueAns w) := by
  have O_a := Lib.hid ha
  have O_l := Lib.hid hl
  have O_w := Lib.hid hw
  have BB := Lib.hid (Below.refl w.heap.size w)
  have HM := Lib.hid hm
  have HN := Lib.hid hn
  have HG := Lib.hid hg
  have HA := Lib.hid ha.1
  have HL := Lib.hid (show (cs ++ bs).length = n0 + n1 by rw [List.length_append, ha.1, hl.1])
  obtain ⟨z, hz⟩ : ∃ z : Int, (pick ws (drawAt bs 0 % ws.sum) : Int) = z := ⟨_, rfl⟩
  have HZ := Lib.hid hz
  clear hz
  obtain ⟨x, hx⟩ : ∃ x, drawAt bs 0 % m = x := ⟨_, rfl⟩
  have HX := Lib.hid hx
  clear hx
  obtain ⟨q, hq⟩ : ∃ q, min 2 n1 = q := ⟨_, rfl⟩
  have hq2 : q ≤ 2 := by omega
  have HQ := Lib.hid hq
  clear hq
  clear ha hl hw hm hg hn
  go_enter Try.func5, Try.ntmps5
  go_wp2_with fail
  refine (live_any _).mono ?_
  rintro e w1 ⟨rfl, hb⟩
  have ha := hb.alloc hb.size (.cells #[.slice A1 n1 c1, .int .i64 0] 24)
  have han := (Below.refl w1.heap.size w1).alloc (Nat.le_refl _) (.cells #[.slice A1 n1 c1, .int .i64 0] 24)
  replace O_a := Lib.hid (O_a.out.below ha)
  replace O_l := Lib.hid (O_l.out.below ha)
  replace O_w := Lib.hid (O_w.out.below ha)
  replace BB := Lib.hid (below3 BB.out ha)
  have K_d := Lib.hid (Bk.new w1 24 #[.slice A1 n1 c1, .int .i64 0])
  clear ha hb han
  have HQ1 := Lib.hid (size_alloc w1 (.cells #[.slice A1 n1 c1, .int .i64 0] 24))
  go_wp2_with (first
    | (at_builtin
       refine wpList_append_octs _ rfl _ _ 22 rfl 5 Try.underlying22 Try.octetInfo (w1.heap.size + 1) none 0 [] 0 rfl rfl (OwnO.nil_ _ _ _) A0 n0 c0 cs rfl O_a.out (by simp; omega) (by rw [HQ1.out]; exact Nat.le_refl _) ?_
       intro X2 d2 w2 hown2 hg2
       simp only [List.nil_append] at hown2 ⊢
       rw [HA.out]
       have P2 := Lib.hid hown2
       have G2 := Lib.hid hg2
       have O_l2 := Lib.hid (O_l.out.below ((Below.refl _ _).grown hg2 (Nat.le_refl _) (by simp [Value.ownBlock])))
       have z2 := Lib.hid (Nat.le_trans (Nat.le_of_eq HQ1.out.symm) hg2.size)
       clear hown2 hg2)
    | (at_builtin
       refine wpList_append_octs _ rfl _ _ 22 rfl 5 Try.underlying22 Try.octetInfo (w1.heap.size + 1) X2 d2 cs n0 HA.out.symm rfl P2.out A1 n1 c1 bs rfl O_l2.out (by rw [HA.out]; omega) z2.out ?_
       intro X3 d3 w3 hown3 hg3
       rw [HL.out]
       have hb : Below (w1.alloc (.cells #[.slice A1 n1 c1, .int .i64 0] 24)).heap.size (w1.alloc (.cells #[.slice A1 n1 c1, .int .i64 0] 24)) w3 := ((Below.refl _ _).grown G2.out (Nat.le_refl _) (by simp [Value.ownBlock])).grown hg3 (by rw [HQ1.out]; exact z2.out) (by intro j hj; rw [HQ1.out]; exact P2.out.block j hj)
       have ho3 : Octs w3 X3 (n0 + n1) (cs ++ bs) := by have := hown3.octs; rwa [HL.out] at this
       clear hown3 hg3
       have ha := hb.alloc hb.size (.cells #[.slice X3 (n0 + n1) d3, .int .i64 (n0 : Int)] 24)
       have han := (Below.refl w3.heap.size w3).alloc (Nat.le_refl _) (.cells #[.slice X3 (n0 + n1) d3, .int .i64 (n0 : Int)] 24)
       replace K_d := Lib.hid (K_d.out.below ha K_d.out.lt)
       replace O_a := Lib.hid (O_a.out.below ha)
       replace O_l := Lib.hid (O_l.out.below ha)
       replace O_w := Lib.hid (O_w.out.below ha)
       replace BB := Lib.hid (below3 BB.out ha)
       have O_o := Lib.hid (ho3.below han)
       have K_o := Lib.hid (Bk.new w3 24 #[.slice X3 (n0 + n1) d3, .int .i64 (n0 : Int)])
       clear ha hb han ho3
       have a_d := K_d.out.c0
       have b_d := K_d.out.c1)
    | fail)
  skip
  refine (below_0 A1 n1 c1 bs m x q _ O_l.out HM.out.1 HM.out.2 HX.out HQ.out).mono ?_
  rintro e w4 ⟨Ax, cx, rfl, hx, hb⟩
  clear a_d b_d
  have ha := hb.alloc hb.size (.cells #[.slice Ax n1 cx, .int .i64 (q : Int)] 24)
  have han := (Below.refl w4.heap.size w4).alloc (Nat.le_refl _) (.cells #[.slice Ax n1 cx, .int .i64 (q : Int)] 24)
  replace K_d := Lib.hid (K_d.out.below ha K_d.out.lt)
  replace K_o := Lib.hid (K_o.out.below ha K_o.out.lt)
  replace O_a := Lib.hid (O_a.out.below ha)
  replace O_l := Lib.hid (O_l.out.below ha)
  replace O_w := Lib.hid (O_w.out.below ha)
  replace O_o := Lib.hid (O_o.out.below ha)
  replace BB := Lib.hid (below3 BB.out ha)
  have K_x := Lib.hid (Bk.new w4 24 #[.slice Ax n1 cx, .int .i64 (q : Int)])
  clear ha hb han
  have a_o := K_o.out.c0
  have b_o := K_o.out.c1
  go_wp2_with fail
  refine (below_b X3 n0 n1 d3 cs bs m x q _ O_o.out HA.out HM.out.1 HM.out.2 HX.out HQ.out).mono ?_
  rintro e w5 ⟨Ay, cy, rfl, hy, hb⟩
  clear a_o b_o
  have ha := hb.alloc hb.size (.cells #[.slice Ay (n0 + n1) cy, .int .i64 ((n0 : Int) + (q : Int))] 24)
  have han := (Below.refl w5.heap.size w5).alloc (Nat.le_refl _) (.cells #[.slice Ay (n0 + n1) cy, .int .i64 ((n0 : Int) + (q : Int))] 24)
  replace K_d := Lib.hid (K_d.out.below ha K_d.out.lt)
  replace K_o := Lib.hid (K_o.out.below ha K_o.out.lt)
  replace K_x := Lib.hid (K_x.out.below ha K_x.out.lt)
  replace O_a := Lib.hid (O_a.out.below ha)
  replace O_l := Lib.hid (O_l.out.below ha)
  replace O_w := Lib.hid (O_w.out.below ha)
  replace O_o := Lib.hid (O_o.out.below ha)
  replace BB := Lib.hid (below3 BB.out ha)
  have K_y := Lib.hid (Bk.new w5 24 #[.slice Ay (n0 + n1) cy, .int .i64 ((n0 : Int) + (q : Int))])
  clear ha hb han
  have a_d := K_d.out.c0
  have b_d := K_d.out.c1
  go_wp2_with fail
  refine (order_no A1 n1 c1 0 n _ (by omega) (fun h => HN.out h.2.2)).mono ?_
  rintro e w6 ⟨Ap, cp, Bp, dp, rfl, hp, -, hb⟩
  clear a_d b_d
  have ha := hb.alloc hb.size (.cells #[.slice Ap 0 cp, .int .i64 0] 24)
  have han := (Below.refl w6.heap.size w6).alloc (Nat.le_refl _) (.cells #[.slice Ap 0 cp, .int .i64 0] 24)
  replace K_d := Lib.hid (K_d.out.below ha K_d.out.lt)
  replace K_o := Lib.hid (K_o.out.below ha K_o.out.lt)
  replace K_x := Lib.hid (K_x.out.below ha K_x.out.lt)
  replace K_y := Lib.hid (K_y.out.below ha K_y.out.lt)
  replace O_a := Lib.hid (O_a.out.below ha)
  replace O_l := Lib.hid (O_l.out.below ha)
  replace O_w := Lib.hid (O_w.out.below ha)
  replace O_o := Lib.hid (O_o.out.below ha)
  replace BB := Lib.hid (below3 BB.out ha)
  have O_p := Lib.hid (hp.ints.below han)
  have K_p := Lib.hid (Bk.new w6 24 #[.slice Ap 0 cp, .int .i64 0])
  clear ha hb han hp
  have a_o := K_o.out.c0
  have b_o := K_o.out.c1
  go_wp2_with fail
  refine (order_no X3 (n0 + n1) d3 n0 n _ (by omega) (fun h => HN.out h.2.2)).mono ?_
  rintro e w7 ⟨Aq, cq, Bq, dq, rfl, hq, -, hb⟩
  clear a_o b_o
  have ha := hb.alloc hb.size (.cells #[.slice Aq 0 cq, .int .i64 0] 24)
  have han := (Below.refl w7.heap.size w7).alloc (Nat.le_refl _) (.cells #[.slice Aq 0 cq, .int .i64 0] 24)
  replace K_d := Lib.hid (K_d.out.below ha K_d.out.lt)
  replace K_o := Lib.hid (K_o.out.below ha K_o.out.lt)
  replace K_x := Lib.hid (K_x.out.below ha K_x.out.lt)
  replace K_y := Lib.hid (K_y.out.below ha K_y.out.lt)
  replace K_p := Lib.hid (K_p.out.below ha K_p.out.lt)
  replace O_a := Lib.hid (O_a.out.below ha)
  replace O_l := Lib.hid (O_l.out.below ha)
  replace O_w := Lib.hid (O_w.out.below ha)
  replace O_o := Lib.hid (O_o.out.below ha)
  replace O_p := Lib.hid (O_p.out.below ha)
  replace BB := Lib.hid (below3 BB.out ha)
  have O_q := Lib.hid (hq.ints.below han)
  have K_q := Lib.hid (Bk.new w7 24 #[.slice Aq 0 cq, .int .i64 0])
  clear ha hb han hq
  have a_d := K_d.out.c0
  have b_d := K_d.out.c1
  go_wp2_with fail
  refine (heavy_0 A1 B n1 c1 k d bs ws z _ O_l.out O_w.out HG.out HZ.out).mono ?_
  rintro e w8 ⟨As, ns, cs2, sq, rfl, hb⟩
  clear a_d b_d
  have ha := hb.alloc hb.size (.cells #[.slice As ns cs2, .int .i64 sq] 24)
  have han := (Below.refl w8.heap.size w8).alloc (Nat.le_refl _) (.cells #[.slice As ns cs2, .int .i64 sq] 24)
  replace K_d := Lib.hid (K_d.out.below ha K_d.out.lt)
  replace K_o := Lib.hid (K_o.out.below ha K_o.out.lt)
  replace K_x := Lib.hid (K_x.out.below ha K_x.out.lt)
  replace K_y := Lib.hid (K_y.out.below ha K_y.out.lt)
  replace K_p := Lib.hid (K_p.out.below ha K_p.out.lt)
  replace K_q := Lib.hid (K_q.out.below ha K_q.out.lt)
  replace O_a := Lib.hid (O_a.out.below ha)
  replace O_l := Lib.hid (O_l.out.below ha)
  replace O_w := Lib.hid (O_w.out.below ha)
  replace O_o := Lib.hid (O_o.out.below ha)
  replace O_p := Lib.hid (O_p.out.below ha)
  replace O_q := Lib.hid (O_q.out.below ha)
  replace BB := Lib.hid (below3 BB.out ha)
  have K_s := Lib.hid (Bk.new w8 24 #[.slice As ns cs2, .int .i64 sq])
  clear ha hb han
  have a_o := K_o.out.c0
  have b_o := K_o.out.c1
  go_wp2_with fail
  refine (heavy_b X3 B n0 n1 d3 k d cs bs ws z _ O_o.out HA.out O_w.out HG.out HZ.out).mono ?_
  rintro e w9 ⟨At, nt, ct, tq, rfl, hb⟩
  clear a_o b_o
  have ha := hb.alloc hb.size (.cells #[.slice At nt ct, .int .i64 tq] 24)
  have han := (Below.refl w9.heap.size w9).alloc (Nat.le_refl _) (.cells #[.slice At nt ct, .int .i64 tq] 24)
  replace K_d := Lib.hid (K_d.out.below ha K_d.out.lt)
  replace K_o := Lib.hid (K_o.out.below ha K_o.out.lt)
  replace K_x := Lib.hid (K_x.out.below ha K_x.out.lt)
  replace K_y := Lib.hid (K_y.out.below ha K_y.out.lt)
  replace K_p := Lib.hid (K_p.out.below ha K_p.out.lt)
  replace K_q := Lib.hid (K_q.out.below ha K_q.out.lt)
  replace K_s := Lib.hid (K_s.out.below ha K_s.out.lt)
  replace O_a := Lib.hid (O_a.out.below ha)
  replace O_l := Lib.hid (O_l.out.below ha)
  replace O_w := Lib.hid (O_w.out.below ha)
  replace O_o := Lib.hid (O_o.out.below ha)
  replace O_p := Lib.hid (O_p.out.below ha)
  replace O_q := Lib.hid (O_q.out.below ha)
  replace BB := Lib.hid (below3 BB.out ha)
  have K_t := Lib.hid (Bk.new w9 24 #[.slice At nt ct, .int .i64 tq])
  clear ha hb han
  have a_x := K_x.out.c0
  have b_x := K_x.out.c1
  have a_y := K_y.out.c0
  have b_y := K_y.out.c1
  go_wp2_with fail
  refine (sameInts_yes _ _ 0 _ _ _ _ O_p.out O_q.out).mono ?_
  rintro e w10 ⟨rfl, hb⟩
  clear a_x b_x a_y b_y
  have ha := hb
  replace K_d := Lib.hid (K_d.out.below ha K_d.out.lt)
  replace K_o := Lib.hid (K_o.out.below ha K_o.out.lt)
  replace K_x := Lib.hid (K_x.out.below ha K_x.out.lt)
  replace K_y := Lib.hid (K_y.out.below ha K_y.out.lt)
  replace K_p := Lib.hid (K_p.out.below ha K_p.out.lt)
  replace K_q := Lib.hid (K_q.out.below ha K_q.out.lt)
  replace K_s := Lib.hid (K_s.out.below ha K_s.out.lt)
  replace K_t := Lib.hid (K_t.out.below ha K_t.out.lt)
  replace O_a := Lib.hid (O_a.out.below ha)
  replace O_l := Lib.hid (O_l.out.below ha)
  replace O_w := Lib.hid (O_w.out.below ha)
  replace O_o := Lib.hid (O_o.out.below ha)
  replace O_p := Lib.hid (O_p.out.below ha)
  replace O_q := Lib.hid (O_q.out.below ha)
  replace BB := Lib.hid (below3 BB.out ha)
  clear ha hb
  go_wp2
  go_ret
  exact ⟨rfl, BB.out⟩

set_option maxRecDepth 100000 in
set_option maxHeartbeats 4000000 in
theorem alone_100 (A0 A1 B : Option Addr) (n0 c0 n1 c1 k d : Nat) (m : Int) (n : Int) (cs bs ws : List Int) (w : World) (ha : Octs w A0 n0 cs) (hl : Octs w A1 n1 bs) (hw : Ints w B k ws) (h0 : n0 ≤ 300) (h1 : n1 ≤ 300) (hk : k ≤ 300) (hm : 1 ≤ m ∧ m ≤ 65536) (hn : ¬ (0 ≤ n ∧ n ≤ 256)) (hg : weightE ws ≠ 0) :
    Calls Try.prog 5 #[.slice A0 n0 c0, .slice A1 n1 c1, .int .i64 m, .int .i64 n, .slice B k d] w (TrueAns w) := by
  have O_a := Lib.hid ha
  have O_l := Lib.hid hl
  have O_w := Lib.hid hw
  have BB := Lib.hid (Below.refl w.heap.size w)
  have HM := Lib.hid hm
  have HN := Lib.hid hn
  have HG := Lib.hid hg
  have HA := Lib.hid ha.1
  have HL := Lib.hid (show (cs ++ bs).length = n0 + n1 by rw [List.length_append, ha.1, hl.1])
  obtain ⟨E, hE⟩ : ∃ E, weightE ws = E := ⟨_, rfl⟩
  have hE0 : E ≠ 0 := hE ▸ hg
  have HE := Lib.hid hE
  clear hE
  obtain ⟨x, hx⟩ : ∃ x, drawAt bs 0 % m = x := ⟨_, rfl⟩
  have HX := Lib.hid hx
  clear hx
  obtain ⟨q, hq⟩ : ∃ q, min 2 n1 = q := ⟨_, rfl⟩
  have hq2 : q ≤ 2 := by omega
  have HQ := Lib.hid hq
  clear hq
  clear ha hl hw hm hg hn
  go_enter Try.func5, Try.ntmps5
  go_wp2_with fail
  refine (live_any _).mono ?_
  rintro e w1 ⟨rfl, hb⟩
  have ha := hb.alloc hb.size (.cells #[.slice A1 n1 c1, .int .i64 0] 24)
  have han := (Below.refl w1.heap.size w1).alloc (Nat.le_refl _) (.cells #[.slice A1 n1 c1, .int .i64 0] 24)
  replace O_a := Lib.hid (O_a.out.below ha)
  replace O_l := Lib.hid (O_l.out.below ha)
  replace O_w := Lib.hid (O_w.out.below ha)
  replace BB := Lib.hid (below3 BB.out ha)
  have K_d := Lib.hid (Bk.new w1 24 #[.slice A1 n1 c1, .int .i64 0])
  clear ha hb han
  have HQ1 := Lib.hid (size_alloc w1 (.cells #[.slice A1 n1 c1, .int .i64 0] 24))
  go_wp2_with (first
    | (at_builtin
       refine wpList_append_octs _ rfl _ _ 22 rfl 5 Try.underlying22 Try.octetInfo (w1.heap.size + 1) none 0 [] 0 rfl rfl (OwnO.nil_ _ _ _) A0 n0 c0 cs rfl O_a.out (by simp; omega) (by rw [HQ1.out]; exact Nat.le_refl _) ?_
       intro X2 d2 w2 hown2 hg2
       simp only [List.nil_append] at hown2 ⊢
       rw [HA.out]
       have P2 := Lib.hid hown2
       have G2 := Lib.hid hg2
       have O_l2 := Lib.hid (O_l.out.below ((Below.refl _ _).grown hg2 (Nat.le_refl _) (by simp [Value.ownBlock])))
       have z2 := Lib.hid (Nat.le_trans (Nat.le_of_eq HQ1.out.symm) hg2.size)
       clear hown2 hg2)
    | (at_builtin
       refine wpList_append_octs _ rfl _ _ 22 rfl 5 Try.underlying22 Try.octetInfo (w1.heap.size + 1) X2 d2 cs n0 HA.out.symm rfl P2.out A1 n1 c1 bs rfl O_l2.out (by rw [HA.out]; omega) z2.out ?_
       intro X3 d3 w3 hown3 hg3
       rw [HL.out]
       have hb : Below (w1.alloc (.cells #[.slice A1 n1 c1, .int .i64 0] 24)).heap.size (w1.alloc (.cells #[.slice A1 n1 c1, .int .i64 0] 24)) w3 := ((Below.refl _ _).grown G2.out (Nat.le_refl _) (by simp [Value.ownBlock])).grown hg3 (by rw [HQ1.out]; exact z2.out) (by intro j hj; rw [HQ1.out]; exact P2.out.block j hj)
       have ho3 : Octs w3 X3 (n0 + n1) (cs ++ bs) := by have := hown3.octs; rwa [HL.out] at this
       clear hown3 hg3
       have ha := hb.alloc hb.size (.cells #[.slice X3 (n0 + n1) d3, .int .i64 (n0 : Int)] 24)
       have han := (Below.refl w3.heap.size w3).alloc (Nat.le_refl _) (.cells #[.slice X3 (n0 + n1) d3, .int .i64 (n0 : Int)] 24)
       replace K_d := Lib.hid (K_d.out.below ha K_d.out.lt)
       replace O_a := Lib.hid (O_a.out.below ha)
       replace O_l := Lib.hid (O_l.out.below ha)
       replace O_w := Lib.hid (O_w.out.below ha)
       replace BB := Lib.hid (below3 BB.out ha)
       have O_o := Lib.hid (ho3.below han)
       have K_o := Lib.hid (Bk.new w3 24 #[.slice X3 (n0 + n1) d3, .int .i64 (n0 : Int)])
       clear ha hb han ho3
       have a_d := K_d.out.c0
       have b_d := K_d.out.c1)
    | fail)
  skip
  refine (below_0 A1 n1 c1 bs m x q _ O_l.out HM.out.1 HM.out.2 HX.out HQ.out).mono ?_
  rintro e w4 ⟨Ax, cx, rfl, hx, hb⟩
  clear a_d b_d
  have ha := hb.alloc hb.size (.cells #[.slice Ax n1 cx, .int .i64 (q : Int)] 24)
  have han := (Below.refl w4.heap.size w4).alloc (Nat.le_refl _) (.cells #[.slice Ax n1 cx, .int .i64 (q : Int)] 24)
  replace K_d := Lib.hid (K_d.out.below ha K_d.out.lt)
  replace K_o := Lib.hid (K_o.out.below ha K_o.out.lt)
  replace O_a := Lib.hid (O_a.out.below ha)
  replace O_l := Lib.hid (O_l.out.below ha)
  replace O_w := Lib.hid (O_w.out.below ha)
  replace O_o := Lib.hid (O_o.out.below ha)
  replace BB := Lib.hid (below3 BB.out ha)
  have K_x := Lib.hid (Bk.new w4 24 #[.slice Ax n1 cx, .int .i64 (q : Int)])
  clear ha hb han
  have a_o := K_o.out.c0
  have b_o := K_o.out.c1
  go_wp2_with fail
  refine (below_b X3 n0 n1 d3 cs bs m x q _ O_o.out HA.out HM.out.1 HM.out.2 HX.out HQ.out).mono ?_
  rintro e w5 ⟨Ay, cy, rfl, hy, hb⟩
  clear a_o b_o
  have ha := hb.alloc hb.size (.cells #[.slice Ay (n0 + n1) cy, .int .i64 ((n0 : Int) + (q : Int))] 24)
  have han := (Below.refl w5.heap.size w5).alloc (Nat.le_refl _) (.cells #[.slice Ay (n0 + n1) cy, .int .i64 ((n0 : Int) + (q : Int))] 24)
  replace K_d := Lib.hid (K_d.out.below ha K_d.out.lt)
  replace K_o := Lib.hid (K_o.out.below ha K_o.out.lt)
  replace K_x := Lib.hid (K_x.out.below ha K_x.out.lt)
  replace O_a := Lib.hid (O_a.out.below ha)
  replace O_l := Lib.hid (O_l.out.below ha)
  replace O_w := Lib.hid (O_w.out.below ha)
  replace O_o := Lib.hid (O_o.out.below ha)
  replace BB := Lib.hid (below3 BB.out ha)
  have K_y := Lib.hid (Bk.new w5 24 #[.slice Ay (n0 + n1) cy, .int .i64 ((n0 : Int) + (q : Int))])
  clear ha hb han
  have a_d := K_d.out.c0
  have b_d := K_d.out.c1
  go_wp2_with fail
  refine (order_no A1 n1 c1 0 n _ (by omega) (fun h => HN.out h.2.2)).mono ?_
  rintro e w6 ⟨Ap, cp, Bp, dp, rfl, hp, -, hb⟩
  clear a_d b_d
  have ha := hb.alloc hb.size (.cells #[.slice Ap 0 cp, .int .i64 0] 24)
  have han := (Below.refl w6.heap.size w6).alloc (Nat.le_refl _) (.cells #[.slice Ap 0 cp, .int .i64 0] 24)
  replace K_d := Lib.hid (K_d.out.below ha K_d.out.lt)
  replace K_o := Lib.hid (K_o.out.below ha K_o.out.lt)
  replace K_x := Lib.hid (K_x.out.below ha K_x.out.lt)
  replace K_y := Lib.hid (K_y.out.below ha K_y.out.lt)
  replace O_a := Lib.hid (O_a.out.below ha)
  replace O_l := Lib.hid (O_l.out.below ha)
  replace O_w := Lib.hid (O_w.out.below ha)
  replace O_o := Lib.hid (O_o.out.below ha)
  replace BB := Lib.hid (below3 BB.out ha)
  have O_p := Lib.hid (hp.ints.below han)
  have K_p := Lib.hid (Bk.new w6 24 #[.slice Ap 0 cp, .int .i64 0])
  clear ha hb han hp
  have a_o := K_o.out.c0
  have b_o := K_o.out.c1
  go_wp2_with fail
  refine (order_no X3 (n0 + n1) d3 n0 n _ (by omega) (fun h => HN.out h.2.2)).mono ?_
  rintro e w7 ⟨Aq, cq, Bq, dq, rfl, hq, -, hb⟩
  clear a_o b_o
  have ha := hb.alloc hb.size (.cells #[.slice Aq 0 cq, .int .i64 0] 24)
  have han := (Below.refl w7.heap.size w7).alloc (Nat.le_refl _) (.cells #[.slice Aq 0 cq, .int .i64 0] 24)
  replace K_d := Lib.hid (K_d.out.below ha K_d.out.lt)
  replace K_o := Lib.hid (K_o.out.below ha K_o.out.lt)
  replace K_x := Lib.hid (K_x.out.below ha K_x.out.lt)
  replace K_y := Lib.hid (K_y.out.below ha K_y.out.lt)
  replace K_p := Lib.hid (K_p.out.below ha K_p.out.lt)
  replace O_a := Lib.hid (O_a.out.below ha)
  replace O_l := Lib.hid (O_l.out.below ha)
  replace O_w := Lib.hid (O_w.out.below ha)
  replace O_o := Lib.hid (O_o.out.below ha)
  replace O_p := Lib.hid (O_p.out.below ha)
  replace BB := Lib.hid (below3 BB.out ha)
  have O_q := Lib.hid (hq.ints.below han)
  have K_q := Lib.hid (Bk.new w7 24 #[.slice Aq 0 cq, .int .i64 0])
  clear ha hb han hq
  have a_d := K_d.out.c0
  have b_d := K_d.out.c1
  go_wp2_with fail
  refine (heavy_no A1 B n1 c1 k d 0 ws E _ (by omega) (by omega) O_w.out HE.out hE0).mono ?_
  rintro e w8 ⟨As, cs2, rfl, -, hb⟩
  clear a_d b_d
  have ha := hb.alloc hb.size (.cells #[.slice As 0 cs2, .int .i64 0] 24)
  have han := (Below.refl w8.heap.size w8).alloc (Nat.le_refl _) (.cells #[.slice As 0 cs2, .int .i64 0] 24)
  replace K_d := Lib.hid (K_d.out.below ha K_d.out.lt)
  replace K_o := Lib.hid (K_o.out.below ha K_o.out.lt)
  replace K_x := Lib.hid (K_x.out.below ha K_x.out.lt)
  replace K_y := Lib.hid (K_y.out.below ha K_y.out.lt)
  replace K_p := Lib.hid (K_p.out.below ha K_p.out.lt)
  replace K_q := Lib.hid (K_q.out.below ha K_q.out.lt)
  replace O_a := Lib.hid (O_a.out.below ha)
  replace O_l := Lib.hid (O_l.out.below ha)
  replace O_w := Lib.hid (O_w.out.below ha)
  replace O_o := Lib.hid (O_o.out.below ha)
  replace O_p := Lib.hid (O_p.out.below ha)
  replace O_q := Lib.hid (O_q.out.below ha)
  replace BB := Lib.hid (below3 BB.out ha)
  have K_s := Lib.hid (Bk.new w8 24 #[.slice As 0 cs2, .int .i64 0])
  clear ha hb han
  have a_o := K_o.out.c0
  have b_o := K_o.out.c1
  go_wp2_with fail
  refine (heavy_no X3 B (n0 + n1) d3 k d n0 ws E _ (by omega) (by omega) O_w.out HE.out hE0).mono ?_
  rintro e w9 ⟨At, ct, rfl, -, hb⟩
  clear a_o b_o
  have ha := hb.alloc hb.size (.cells #[.slice At 0 ct, .int .i64 0] 24)
  have han := (Below.refl w9.heap.size w9).alloc (Nat.le_refl _) (.cells #[.slice At 0 ct, .int .i64 0] 24)
  replace K_d := Lib.hid (K_d.out.below ha K_d.out.lt)
  replace K_o := Lib.hid (K_o.out.below ha K_o.out.lt)
  replace K_x := Lib.hid (K_x.out.below ha K_x.out.lt)
  replace K_y := Lib.hid (K_y.out.below ha K_y.out.lt)
  replace K_p := Lib.hid (K_p.out.below ha K_p.out.lt)
  replace K_q := Lib.hid (K_q.out.below ha K_q.out.lt)
  replace K_s := Lib.hid (K_s.out.below ha K_s.out.lt)
  replace O_a := Lib.hid (O_a.out.below ha)
  replace O_l := Lib.hid (O_l.out.below ha)
  replace O_w := Lib.hid (O_w.out.below ha)
  replace O_o := Lib.hid (O_o.out.below ha)
  replace O_p := Lib.hid (O_p.out.below ha)
  replace O_q := Lib.hid (O_q.out.below ha)
  replace BB := Lib.hid (below3 BB.out ha)
  have K_t := Lib.hid (Bk.new w9 24 #[.slice At 0 ct, .int .i64 0])
  clear ha hb han
  have a_x := K_x.out.c0
  have b_x := K_x.out.c1
  have a_y := K_y.out.c0
  have b_y := K_y.out.c1
  go_wp2_with fail
  refine (sameInts_yes _ _ 0 _ _ _ _ O_p.out O_q.out).mono ?_
  rintro e w10 ⟨rfl, hb⟩
  clear a_x b_x a_y b_y
  have ha := hb
  replace K_d := Lib.hid (K_d.out.below ha K_d.out.lt)
  replace K_o := Lib.hid (K_o.out.below ha K_o.out.lt)
  replace K_x := Lib.hid (K_x.out.below ha K_x.out.lt)
  replace K_y := Lib.hid (K_y.out.below ha K_y.out.lt)
  replace K_p := Lib.hid (K_p.out.below ha K_p.out.lt)
  replace K_q := Lib.hid (K_q.out.below ha K_q.out.lt)
  replace K_s := Lib.hid (K_s.out.below ha K_s.out.lt)
  replace K_t := Lib.hid (K_t.out.below ha K_t.out.lt)
  replace O_a := Lib.hid (O_a.out.below ha)
  replace O_l := Lib.hid (O_l.out.below ha)
  replace O_w := Lib.hid (O_w.out.below ha)
  replace O_o := Lib.hid (O_o.out.below ha)
  replace O_p := Lib.hid (O_p.out.below ha)
  replace O_q := Lib.hid (O_q.out.below ha)
  replace BB := Lib.hid (below3 BB.out ha)
  clear ha hb
  go_wp2
  go_ret
  exact ⟨rfl, BB.out⟩

set_option maxRecDepth 100000 in
set_option maxHeartbeats 4000000 in
theorem alone_011 (A0 A1 B : Option Addr) (n0 c0 n1 c1 k d : Nat) (m : Int) (n : Nat) (cs bs ws : List Int) (w : World) (ha : Octs w A0 n0 cs) (hl : Octs w A1 n1 bs) (hw : Ints w B k ws) (h0 : n0 ≤ 300) (h1 : n1 ≤ 300) (hk : k ≤ 300) (hm : ¬ (1 ≤ m ∧ m ≤ 65536)) (hn : n ≤ 256) (hg : weightE ws = 0) :
    Calls Try.prog 5 #[.slice A0 n0 c0, .slice A1 n1 c1, .int .i64 m, .int .i64 (n : Int), .slice B k d] w (TrueAns w) := by
  have O_a := Lib.hid ha
  have O_l := Lib.hid hl
  have O_w := Lib.hid hw
  have BB := Lib.hid (Below.refl w.heap.size w)
  have HM := Lib.hid hm
  have HN := Lib.hid hn
  have HG := Lib.hid hg
  have HA := Lib.hid ha.1
  have HL := Lib.hid (show (cs ++ bs).length = n0 + n1 by rw [List.length_append, ha.1, hl.1])
  obtain ⟨z, hz⟩ : ∃ z : Int, (pick ws (drawAt bs 0 % ws.sum) : Int) = z := ⟨_, rfl⟩
  have HZ := Lib.hid hz
  clear hz
  clear ha hl hw hm hg
  go_enter Try.func5, Try.ntmps5
  go_wp2_with fail
  refine (live_any _).mono ?_
  rintro e w1 ⟨rfl, hb⟩
  have ha := hb.alloc hb.size (.cells #[.slice A1 n1 c1, .int .i64 0] 24)
  have han := (Below.refl w1.heap.size w1).alloc (Nat.le_refl _) (.cells #[.slice A1 n1 c1, .int .i64 0] 24)
  replace O_a := Lib.hid (O_a.out.below ha)
  replace O_l := Lib.hid (O_l.out.below ha)
  replace O_w := Lib.hid (O_w.out.below ha)
  replace BB := Lib.hid (below3 BB.out ha)
  have K_d := Lib.hid (Bk.new w1 24 #[.slice A1 n1 c1, .int .i64 0])
  clear ha hb han
  have HQ1 := Lib.hid (size_alloc w1 (.cells #[.slice A1 n1 c1, .int .i64 0] 24))
  go_wp2_with (first
    | (at_builtin
       refine wpList_append_octs _ rfl _ _ 22 rfl 5 Try.underlying22 Try.octetInfo (w1.heap.size + 1) none 0 [] 0 rfl rfl (OwnO.nil_ _ _ _) A0 n0 c0 cs rfl O_a.out (by simp; omega) (by rw [HQ1.out]; exact Nat.le_refl _) ?_
       intro X2 d2 w2 hown2 hg2
       simp only [List.nil_append] at hown2 ⊢
       rw [HA.out]
       have P2 := Lib.hid hown2
       have G2 := Lib.hid hg2
       have O_l2 := Lib.hid (O_l.out.below ((Below.refl _ _).grown hg2 (Nat.le_refl _) (by simp [Value.ownBlock])))
       have z2 := Lib.hid (Nat.le_trans (Nat.le_of_eq HQ1.out.symm) hg2.size)
       clear hown2 hg2)
    | (at_builtin
       refine wpList_append_octs _ rfl _ _ 22 rfl 5 Try.underlying22 Try.octetInfo (w1.heap.size + 1) X2 d2 cs n0 HA.out.symm rfl P2.out A1 n1 c1 bs rfl O_l2.out (by rw [HA.out]; omega) z2.out ?_
       intro X3 d3 w3 hown3 hg3
       rw [HL.out]
       have hb : Below (w1.alloc (.cells #[.slice A1 n1 c1, .int .i64 0] 24)).heap.size (w1.alloc (.cells #[.slice A1 n1 c1, .int .i64 0] 24)) w3 := ((Below.refl _ _).grown G2.out (Nat.le_refl _) (by simp [Value.ownBlock])).grown hg3 (by rw [HQ1.out]; exact z2.out) (by intro j hj; rw [HQ1.out]; exact P2.out.block j hj)
       have ho3 : Octs w3 X3 (n0 + n1) (cs ++ bs) := by have := hown3.octs; rwa [HL.out] at this
       clear hown3 hg3
       have ha := hb.alloc hb.size (.cells #[.slice X3 (n0 + n1) d3, .int .i64 (n0 : Int)] 24)
       have han := (Below.refl w3.heap.size w3).alloc (Nat.le_refl _) (.cells #[.slice X3 (n0 + n1) d3, .int .i64 (n0 : Int)] 24)
       replace K_d := Lib.hid (K_d.out.below ha K_d.out.lt)
       replace O_a := Lib.hid (O_a.out.below ha)
       replace O_l := Lib.hid (O_l.out.below ha)
       replace O_w := Lib.hid (O_w.out.below ha)
       replace BB := Lib.hid (below3 BB.out ha)
       have O_o := Lib.hid (ho3.below han)
       have K_o := Lib.hid (Bk.new w3 24 #[.slice X3 (n0 + n1) d3, .int .i64 (n0 : Int)])
       clear ha hb han ho3
       have a_d := K_d.out.c0
       have b_d := K_d.out.c1)
    | fail)
  skip
  refine (below_no A1 n1 c1 0 m _ (by omega) (fun h => HM.out h.2.2)).mono ?_
  rintro e w4 ⟨Ax, cx, rfl, -, hb⟩
  clear a_d b_d
  have ha := hb.alloc hb.size (.cells #[.slice Ax 0 cx, .int .i64 0] 24)
  have han := (Below.refl w4.heap.size w4).alloc (Nat.le_refl _) (.cells #[.slice Ax 0 cx, .int .i64 0] 24)
  replace K_d := Lib.hid (K_d.out.below ha K_d.out.lt)
  replace K_o := Lib.hid (K_o.out.below ha K_o.out.lt)
  replace O_a := Lib.hid (O_a.out.below ha)
  replace O_l := Lib.hid (O_l.out.below ha)
  replace O_w := Lib.hid (O_w.out.below ha)
  replace O_o := Lib.hid (O_o.out.below ha)
  replace BB := Lib.hid (below3 BB.out ha)
  have K_x := Lib.hid (Bk.new w4 24 #[.slice Ax 0 cx, .int .i64 0])
  clear ha hb han
  have a_o := K_o.out.c0
  have b_o := K_o.out.c1
  go_wp2_with fail
  refine (below_no X3 (n0 + n1) d3 n0 m _ (by omega) (fun h => HM.out h.2.2)).mono ?_
  rintro e w5 ⟨Ay, cy, rfl, -, hb⟩
  clear a_o b_o
  have ha := hb.alloc hb.size (.cells #[.slice Ay 0 cy, .int .i64 0] 24)
  have han := (Below.refl w5.heap.size w5).alloc (Nat.le_refl _) (.cells #[.slice Ay 0 cy, .int .i64 0] 24)
  replace K_d := Lib.hid (K_d.out.below ha K_d.out.lt)
  replace K_o := Lib.hid (K_o.out.below ha K_o.out.lt)
  replace K_x := Lib.hid (K_x.out.below ha K_x.out.lt)
  replace O_a := Lib.hid (O_a.out.below ha)
  replace O_l := Lib.hid (O_l.out.below ha)
  replace O_w := Lib.hid (O_w.out.below ha)
  replace O_o := Lib.hid (O_o.out.below ha)
  replace BB := Lib.hid (below3 BB.out ha)
  have K_y := Lib.hid (Bk.new w5 24 #[.slice Ay 0 cy, .int .i64 0])
  clear ha hb han
  have a_d := K_d.out.c0
  have b_d := K_d.out.c1
  go_wp2_with fail
  refine (order_0 A1 n1 c1 bs n _ O_l.out HN.out).mono ?_
  rintro e w6 ⟨Ap, np, cp, pq, Bp, dp, rfl, hp, hb⟩
  clear a_d b_d
  have ha := hb.alloc hb.size (.cells #[.slice Ap np cp, .int .i64 pq] 24)
  have han := (Below.refl w6.heap.size w6).alloc (Nat.le_refl _) (.cells #[.slice Ap np cp, .int .i64 pq] 24)
  replace K_d := Lib.hid (K_d.out.below ha K_d.out.lt)
  replace K_o := Lib.hid (K_o.out.below ha K_o.out.lt)
  replace K_x := Lib.hid (K_x.out.below ha K_x.out.lt)
  replace K_y := Lib.hid (K_y.out.below ha K_y.out.lt)
  replace O_a := Lib.hid (O_a.out.below ha)
  replace O_l := Lib.hid (O_l.out.below ha)
  replace O_w := Lib.hid (O_w.out.below ha)
  replace O_o := Lib.hid (O_o.out.below ha)
  replace BB := Lib.hid (below3 BB.out ha)
  have O_p := Lib.hid (hp.below han)
  have K_p := Lib.hid (Bk.new w6 24 #[.slice Ap np cp, .int .i64 pq])
  clear ha hb han hp
  have a_o := K_o.out.c0
  have b_o := K_o.out.c1
  go_wp2_with fail
  refine (order_b X3 n0 n1 d3 cs bs n _ O_o.out HA.out HN.out).mono ?_
  rintro e w7 ⟨Aq, nq, cq, qq, Bq, dq, rfl, hq, hb⟩
  clear a_o b_o
  have ha := hb.alloc hb.size (.cells #[.slice Aq nq cq, .int .i64 qq] 24)
  have han := (Below.refl w7.heap.size w7).alloc (Nat.le_refl _) (.cells #[.slice Aq nq cq, .int .i64 qq] 24)
  replace K_d := Lib.hid (K_d.out.below ha K_d.out.lt)
  replace K_o := Lib.hid (K_o.out.below ha K_o.out.lt)
  replace K_x := Lib.hid (K_x.out.below ha K_x.out.lt)
  replace K_y := Lib.hid (K_y.out.below ha K_y.out.lt)
  replace K_p := Lib.hid (K_p.out.below ha K_p.out.lt)
  replace O_a := Lib.hid (O_a.out.below ha)
  replace O_l := Lib.hid (O_l.out.below ha)
  replace O_w := Lib.hid (O_w.out.below ha)
  replace O_o := Lib.hid (O_o.out.below ha)
  replace O_p := Lib.hid (O_p.out.below ha)
  replace BB := Lib.hid (below3 BB.out ha)
  have O_q := Lib.hid (hq.below han)
  have K_q := Lib.hid (Bk.new w7 24 #[.slice Aq nq cq, .int .i64 qq])
  clear ha hb han hq
  have a_d := K_d.out.c0
  have b_d := K_d.out.c1
  go_wp2_with fail
  refine (heavy_0 A1 B n1 c1 k d bs ws z _ O_l.out O_w.out HG.out HZ.out).mono ?_
  rintro e w8 ⟨As, ns, cs2, sq, rfl, hb⟩
  clear a_d b_d
  have ha := hb.alloc hb.size (.cells #[.slice As ns cs2, .int .i64 sq] 24)
  have han := (Below.refl w8.heap.size w8).alloc (Nat.le_refl _) (.cells #[.slice As ns cs2, .int .i64 sq] 24)
  replace K_d := Lib.hid (K_d.out.below ha K_d.out.lt)
  replace K_o := Lib.hid (K_o.out.below ha K_o.out.lt)
  replace K_x := Lib.hid (K_x.out.below ha K_x.out.lt)
  replace K_y := Lib.hid (K_y.out.below ha K_y.out.lt)
  replace K_p := Lib.hid (K_p.out.below ha K_p.out.lt)
  replace K_q := Lib.hid (K_q.out.below ha K_q.out.lt)
  replace O_a := Lib.hid (O_a.out.below ha)
  replace O_l := Lib.hid (O_l.out.below ha)
  replace O_w := Lib.hid (O_w.out.below ha)
  replace O_o := Lib.hid (O_o.out.below ha)
  replace O_p := Lib.hid (O_p.out.below ha)
  replace O_q := Lib.hid (O_q.out.below ha)
  replace BB := Lib.hid (below3 BB.out ha)
  have K_s := Lib.hid (Bk.new w8 24 #[.slice As ns cs2, .int .i64 sq])
  clear ha hb han
  have a_o := K_o.out.c0
  have b_o := K_o.out.c1
  go_wp2_with fail
  refine (heavy_b X3 B n0 n1 d3 k d cs bs ws z _ O_o.out HA.out O_w.out HG.out HZ.out).mono ?_
  rintro e w9 ⟨At, nt, ct, tq, rfl, hb⟩
  clear a_o b_o
  have ha := hb.alloc hb.size (.cells #[.slice At nt ct, .int .i64 tq] 24)
  have han := (Below.refl w9.heap.size w9).alloc (Nat.le_refl _) (.cells #[.slice At nt ct, .int .i64 tq] 24)
  replace K_d := Lib.hid (K_d.out.below ha K_d.out.lt)
  replace K_o := Lib.hid (K_o.out.below ha K_o.out.lt)
  replace K_x := Lib.hid (K_x.out.below ha K_x.out.lt)
  replace K_y := Lib.hid (K_y.out.below ha K_y.out.lt)
  replace K_p := Lib.hid (K_p.out.below ha K_p.out.lt)
  replace K_q := Lib.hid (K_q.out.below ha K_q.out.lt)
  replace K_s := Lib.hid (K_s.out.below ha K_s.out.lt)
  replace O_a := Lib.hid (O_a.out.below ha)
  replace O_l := Lib.hid (O_l.out.below ha)
  replace O_w := Lib.hid (O_w.out.below ha)
  replace O_o := Lib.hid (O_o.out.below ha)
  replace O_p := Lib.hid (O_p.out.below ha)
  replace O_q := Lib.hid (O_q.out.below ha)
  replace BB := Lib.hid (below3 BB.out ha)
  have K_t := Lib.hid (Bk.new w9 24 #[.slice At nt ct, .int .i64 tq])
  clear ha hb han
  go_wp2_with fail
  refine (sameInts_yes _ _ n _ _ _ _ O_p.out O_q.out).mono ?_
  rintro e w10 ⟨rfl, hb⟩
  have ha := hb
  replace K_d := Lib.hid (K_d.out.below ha K_d.out.lt)
  replace K_o := Lib.hid (K_o.out.below ha K_o.out.lt)
  replace K_x := Lib.hid (K_x.out.below ha K_x.out.lt)
  replace K_y := Lib.hid (K_y.out.below ha K_y.out.lt)
  replace K_p := Lib.hid (K_p.out.below ha K_p.out.lt)
  replace K_q := Lib.hid (K_q.out.below ha K_q.out.lt)
  replace K_s := Lib.hid (K_s.out.below ha K_s.out.lt)
  replace K_t := Lib.hid (K_t.out.below ha K_t.out.lt)
  replace O_a := Lib.hid (O_a.out.below ha)
  replace O_l := Lib.hid (O_l.out.below ha)
  replace O_w := Lib.hid (O_w.out.below ha)
  replace O_o := Lib.hid (O_o.out.below ha)
  replace O_p := Lib.hid (O_p.out.below ha)
  replace O_q := Lib.hid (O_q.out.below ha)
  replace BB := Lib.hid (below3 BB.out ha)
  clear ha hb
  go_wp2
  go_ret
  exact ⟨rfl, BB.out⟩

set_option maxRecDepth 100000 in
set_option maxHeartbeats 4000000 in
theorem alone_010 (A0 A1 B : Option Addr) (n0 c0 n1 c1 k d : Nat) (m : Int) (n : Nat) (cs bs ws : List Int) (w : World) (ha : Octs w A0 n0 cs) (hl : Octs w A1 n1 bs) (hw : Ints w B k ws) (h0 : n0 ≤ 300) (h1 : n1 ≤ 300) (hk : k ≤ 300) (hm : ¬ (1 ≤ m ∧ m ≤ 65536)) (hn : n ≤ 256) (hg : weightE ws ≠ 0) :
    Calls Try.prog 5 #[.slice A0 n0 c0, .slice A1 n1 c1, .int .i64 m, .int .i64 (n : Int), .slice B k d] w (TrueAns w) := by
  have O_a := Lib.hid ha
  have O_l := Lib.hid hl
  have O_w := Lib.hid hw
  have BB := Lib.hid (Below.refl w.heap.size w)
  have HM := Lib.hid hm
  have HN := Lib.hid hn
  have HG := Lib.hid hg
  have HA := Lib.hid ha.1
  have HL := Lib.hid (show (cs ++ bs).length = n0 + n1 by rw [List.length_append, ha.1, hl.1])
  obtain ⟨E, hE⟩ : ∃ E, weightE ws = E := ⟨_, rfl⟩
  have hE0 : E ≠ 0 := hE ▸ hg
  have HE := Lib.hid hE
  clear hE
  clear ha hl hw hm hg
  go_enter Try.func5, Try.ntmps5
  go_wp2_with fail
  refine (live_any _).mono ?_
  rintro e w1 ⟨rfl, hb⟩
  have ha := hb.alloc hb.size (.cells #[.slice A1 n1 c1, .int .i64 0] 24)
  have han := (Below.refl w1.heap.size w1).alloc (Nat.le_refl _) (.cells #[.slice A1 n1 c1, .int .i64 0] 24)
  replace O_a := Lib.hid (O_a.out.below ha)
  replace O_l := Lib.hid (O_l.out.below ha)
  replace O_w := Lib.hid (O_w.out.below ha)
  replace BB := Lib.hid (below3 BB.out ha)
  have K_d := Lib.hid (Bk.new w1 24 #[.slice A1 n1 c1, .int .i64 0])
  clear ha hb han
  have HQ1 := Lib.hid (size_alloc w1 (.cells #[.slice A1 n1 c1, .int .i64 0] 24))
  go_wp2_with (first
    | (at_builtin
       refine wpList_append_octs _ rfl _ _ 22 rfl 5 Try.underlying22 Try.octetInfo (w1.heap.size + 1) none 0 [] 0 rfl rfl (OwnO.nil_ _ _ _) A0 n0 c0 cs rfl O_a.out (by simp; omega) (by rw [HQ1.out]; exact Nat.le_refl _) ?_
       intro X2 d2 w2 hown2 hg2
       simp only [List.nil_append] at hown2 ⊢
       rw [HA.out]
       have P2 := Lib.hid hown2
       have G2 := Lib.hid hg2
       have O_l2 := Lib.hid (O_l.out.below ((Below.refl _ _).grown hg2 (Nat.le_refl _) (by simp [Value.ownBlock])))
       have z2 := Lib.hid (Nat.le_trans (Nat.le_of_eq HQ1.out.symm) hg2.size)
       clear hown2 hg2)
    | (at_builtin
       refine wpList_append_octs _ rfl _ _ 22 rfl 5 Try.underlying22 Try.octetInfo (w1.heap.size + 1) X2 d2 cs n0 HA.out.symm rfl P2.out A1 n1 c1 bs rfl O_l2.out (by rw [HA.out]; omega) z2.out ?_
       intro X3 d3 w3 hown3 hg3
       rw [HL.out]
       have hb : Below (w1.alloc (.cells #[.slice A1 n1 c1, .int .i64 0] 24)).heap.size (w1.alloc (.cells #[.slice A1 n1 c1, .int .i64 0] 24)) w3 := ((Below.refl _ _).grown G2.out (Nat.le_refl _) (by simp [Value.ownBlock])).grown hg3 (by rw [HQ1.out]; exact z2.out) (by intro j hj; rw [HQ1.out]; exact P2.out.block j hj)
       have ho3 : Octs w3 X3 (n0 + n1) (cs ++ bs) := by have := hown3.octs; rwa [HL.out] at this
       clear hown3 hg3
       have ha := hb.alloc hb.size (.cells #[.slice X3 (n0 + n1) d3, .int .i64 (n0 : Int)] 24)
       have han := (Below.refl w3.heap.size w3).alloc (Nat.le_refl _) (.cells #[.slice X3 (n0 + n1) d3, .int .i64 (n0 : Int)] 24)
       replace K_d := Lib.hid (K_d.out.below ha K_d.out.lt)
       replace O_a := Lib.hid (O_a.out.below ha)
       replace O_l := Lib.hid (O_l.out.below ha)
       replace O_w := Lib.hid (O_w.out.below ha)
       replace BB := Lib.hid (below3 BB.out ha)
       have O_o := Lib.hid (ho3.below han)
       have K_o := Lib.hid (Bk.new w3 24 #[.slice X3 (n0 + n1) d3, .int .i64 (n0 : Int)])
       clear ha hb han ho3
       have a_d := K_d.out.c0
       have b_d := K_d.out.c1)
    | fail)
  skip
  refine (below_no A1 n1 c1 0 m _ (by omega) (fun h => HM.out h.2.2)).mono ?_
  rintro e w4 ⟨Ax, cx, rfl, -, hb⟩
  clear a_d b_d
  have ha := hb.alloc hb.size (.cells #[.slice Ax 0 cx, .int .i64 0] 24)
  have han := (Below.refl w4.heap.size w4).alloc (Nat.le_refl _) (.cells #[.slice Ax 0 cx, .int .i64 0] 24)
  replace K_d := Lib.hid (K_d.out.below ha K_d.out.lt)
  replace K_o := Lib.hid (K_o.out.below ha K_o.out.lt)
  replace O_a := Lib.hid (O_a.out.below ha)
  replace O_l := Lib.hid (O_l.out.below ha)
  replace O_w := Lib.hid (O_w.out.below ha)
  replace O_o := Lib.hid (O_o.out.below ha)
  replace BB := Lib.hid (below3 BB.out ha)
  have K_x := Lib.hid (Bk.new w4 24 #[.slice Ax 0 cx, .int .i64 0])
  clear ha hb han
  have a_o := K_o.out.c0
  have b_o := K_o.out.c1
  go_wp2_with fail
  refine (below_no X3 (n0 + n1) d3 n0 m _ (by omega) (fun h => HM.out h.2.2)).mono ?_
  rintro e w5 ⟨Ay, cy, rfl, -, hb⟩
  clear a_o b_o
  have ha := hb.alloc hb.size (.cells #[.slice Ay 0 cy, .int .i64 0] 24)
  have han := (Below.refl w5.heap.size w5).alloc (Nat.le_refl _) (.cells #[.slice Ay 0 cy, .int .i64 0] 24)
  replace K_d := Lib.hid (K_d.out.below ha K_d.out.lt)
  replace K_o := Lib.hid (K_o.out.below ha K_o.out.lt)
  replace K_x := Lib.hid (K_x.out.below ha K_x.out.lt)
  replace O_a := Lib.hid (O_a.out.below ha)
  replace O_l := Lib.hid (O_l.out.below ha)
  replace O_w := Lib.hid (O_w.out.below ha)
  replace O_o := Lib.hid (O_o.out.below ha)
  replace BB := Lib.hid (below3 BB.out ha)
  have K_y := Lib.hid (Bk.new w5 24 #[.slice Ay 0 cy, .int .i64 0])
  clear ha hb han
  have a_d := K_d.out.c0
  have b_d := K_d.out.c1
  go_wp2_with fail
  refine (order_0 A1 n1 c1 bs n _ O_l.out HN.out).mono ?_
  rintro e w6 ⟨Ap, np, cp, pq, Bp, dp, rfl, hp, hb⟩
  clear a_d b_d
  have ha := hb.alloc hb.size (.cells #[.slice Ap np cp, .int .i64 pq] 24)
  have han := (Below.refl w6.heap.size w6).alloc (Nat.le_refl _) (.cells #[.slice Ap np cp, .int .i64 pq] 24)
  replace K_d := Lib.hid (K_d.out.below ha K_d.out.lt)
  replace K_o := Lib.hid (K_o.out.below ha K_o.out.lt)
  replace K_x := Lib.hid (K_x.out.below ha K_x.out.lt)
  replace K_y := Lib.hid (K_y.out.below ha K_y.out.lt)
  replace O_a := Lib.hid (O_a.out.below ha)
  replace O_l := Lib.hid (O_l.out.below ha)
  replace O_w := Lib.hid (O_w.out.below ha)
  replace O_o := Lib.hid (O_o.out.below ha)
  replace BB := Lib.hid (below3 BB.out ha)
  have O_p := Lib.hid (hp.below han)
  have K_p := Lib.hid (Bk.new w6 24 #[.slice Ap np cp, .int .i64 pq])
  clear ha hb han hp
  have a_o := K_o.out.c0
  have b_o := K_o.out.c1
  go_wp2_with fail
  refine (order_b X3 n0 n1 d3 cs bs n _ O_o.out HA.out HN.out).mono ?_
  rintro e w7 ⟨Aq, nq, cq, qq, Bq, dq, rfl, hq, hb⟩
  clear a_o b_o
  have ha := hb.alloc hb.size (.cells #[.slice Aq nq cq, .int .i64 qq] 24)
  have han := (Below.refl w7.heap.size w7).alloc (Nat.le_refl _) (.cells #[.slice Aq nq cq, .int .i64 qq] 24)
  replace K_d := Lib.hid (K_d.out.below ha K_d.out.lt)
  replace K_o := Lib.hid (K_o.out.below ha K_o.out.lt)
  replace K_x := Lib.hid (K_x.out.below ha K_x.out.lt)
  replace K_y := Lib.hid (K_y.out.below ha K_y.out.lt)
  replace K_p := Lib.hid (K_p.out.below ha K_p.out.lt)
  replace O_a := Lib.hid (O_a.out.below ha)
  replace O_l := Lib.hid (O_l.out.below ha)
  replace O_w := Lib.hid (O_w.out.below ha)
  replace O_o := Lib.hid (O_o.out.below ha)
  replace O_p := Lib.hid (O_p.out.below ha)
  replace BB := Lib.hid (below3 BB.out ha)
  have O_q := Lib.hid (hq.below han)
  have K_q := Lib.hid (Bk.new w7 24 #[.slice Aq nq cq, .int .i64 qq])
  clear ha hb han hq
  have a_d := K_d.out.c0
  have b_d := K_d.out.c1
  go_wp2_with fail
  refine (heavy_no A1 B n1 c1 k d 0 ws E _ (by omega) (by omega) O_w.out HE.out hE0).mono ?_
  rintro e w8 ⟨As, cs2, rfl, -, hb⟩
  clear a_d b_d
  have ha := hb.alloc hb.size (.cells #[.slice As 0 cs2, .int .i64 0] 24)
  have han := (Below.refl w8.heap.size w8).alloc (Nat.le_refl _) (.cells #[.slice As 0 cs2, .int .i64 0] 24)
  replace K_d := Lib.hid (K_d.out.below ha K_d.out.lt)
  replace K_o := Lib.hid (K_o.out.below ha K_o.out.lt)
  replace K_x := Lib.hid (K_x.out.below ha K_x.out.lt)
  replace K_y := Lib.hid (K_y.out.below ha K_y.out.lt)
  replace K_p := Lib.hid (K_p.out.below ha K_p.out.lt)
  replace K_q := Lib.hid (K_q.out.below ha K_q.out.lt)
  replace O_a := Lib.hid (O_a.out.below ha)
  replace O_l := Lib.hid (O_l.out.below ha)
  replace O_w := Lib.hid (O_w.out.below ha)
  replace O_o := Lib.hid (O_o.out.below ha)
  replace O_p := Lib.hid (O_p.out.below ha)
  replace O_q := Lib.hid (O_q.out.below ha)
  replace BB := Lib.hid (below3 BB.out ha)
  have K_s := Lib.hid (Bk.new w8 24 #[.slice As 0 cs2, .int .i64 0])
  clear ha hb han
  have a_o := K_o.out.c0
  have b_o := K_o.out.c1
  go_wp2_with fail
  refine (heavy_no X3 B (n0 + n1) d3 k d n0 ws E _ (by omega) (by omega) O_w.out HE.out hE0).mono ?_
  rintro e w9 ⟨At, ct, rfl, -, hb⟩
  clear a_o b_o
  have ha := hb.alloc hb.size (.cells #[.slice At 0 ct, .int .i64 0] 24)
  have han := (Below.refl w9.heap.size w9).alloc (Nat.le_refl _) (.cells #[.slice At 0 ct, .int .i64 0] 24)
  replace K_d := Lib.hid (K_d.out.below ha K_d.out.lt)
  replace K_o := Lib.hid (K_o.out.below ha K_o.out.lt)
  replace K_x := Lib.hid (K_x.out.below ha K_x.out.lt)
  replace K_y := Lib.hid (K_y.out.below ha K_y.out.lt)
  replace K_p := Lib.hid (K_p.out.below ha K_p.out.lt)
  replace K_q := Lib.hid (K_q.out.below ha K_q.out.lt)
  replace K_s := Lib.hid (K_s.out.below ha K_s.out.lt)
  replace O_a := Lib.hid (O_a.out.below ha)
  replace O_l := Lib.hid (O_l.out.below ha)
  replace O_w := Lib.hid (O_w.out.below ha)
  replace O_o := Lib.hid (O_o.out.below ha)
  replace O_p := Lib.hid (O_p.out.below ha)
  replace O_q := Lib.hid (O_q.out.below ha)
  replace BB := Lib.hid (below3 BB.out ha)
  have K_t := Lib.hid (Bk.new w9 24 #[.slice At 0 ct, .int .i64 0])
  clear ha hb han
  go_wp2_with fail
  refine (sameInts_yes _ _ n _ _ _ _ O_p.out O_q.out).mono ?_
  rintro e w10 ⟨rfl, hb⟩
  have ha := hb
  replace K_d := Lib.hid (K_d.out.below ha K_d.out.lt)
  replace K_o := Lib.hid (K_o.out.below ha K_o.out.lt)
  replace K_x := Lib.hid (K_x.out.below ha K_x.out.lt)
  replace K_y := Lib.hid (K_y.out.below ha K_y.out.lt)
  replace K_p := Lib.hid (K_p.out.below ha K_p.out.lt)
  replace K_q := Lib.hid (K_q.out.below ha K_q.out.lt)
  replace K_s := Lib.hid (K_s.out.below ha K_s.out.lt)
  replace K_t := Lib.hid (K_t.out.below ha K_t.out.lt)
  replace O_a := Lib.hid (O_a.out.below ha)
  replace O_l := Lib.hid (O_l.out.below ha)
  replace O_w := Lib.hid (O_w.out.below ha)
  replace O_o := Lib.hid (O_o.out.below ha)
  replace O_p := Lib.hid (O_p.out.below ha)
  replace O_q := Lib.hid (O_q.out.below ha)
  replace BB := Lib.hid (below3 BB.out ha)
  clear ha hb
  go_wp2
  go_ret
  exact ⟨rfl, BB.out⟩

set_option maxRecDepth 100000 in
set_option maxHeartbeats 4000000 in
theorem alone_001 (A0 A1 B : Option Addr) (n0 c0 n1 c1 k d : Nat) (m : Int) (n : Int) (cs bs ws : List Int) (w : World) (ha : Octs w A0 n0 cs) (hl : Octs w A1 n1 bs) (hw : Ints w B k ws) (h0 : n0 ≤ 300) (h1 : n1 ≤ 300) (hk : k ≤ 300) (hm : ¬ (1 ≤ m ∧ m ≤ 65536)) (hn : ¬ (0 ≤ n ∧ n ≤ 256)) (hg : weightE ws = 0) :
    Calls Try.prog 5 #[.slice A0 n0 c0, .slice A1 n1 c1, .int .i64 m, .int .i64 n, .slice B k d] w (TrueAns w) := by
  have O_a := Lib.hid ha
  have O_l := Lib.hid hl
  have O_w := Lib.hid hw
  have BB := Lib.hid (Below.refl w.heap.size w)
  have HM := Lib.hid hm
  have HN := Lib.hid hn
  have HG := Lib.hid hg
  have HA := Lib.hid ha.1
  have HL := Lib.hid (show (cs ++ bs).length = n0 + n1 by rw [List.length_append, ha.1, hl.1])
  obtain ⟨z, hz⟩ : ∃ z : Int, (pick ws (drawAt bs 0 % ws.sum) : Int) = z := ⟨_, rfl⟩
  have HZ := Lib.hid hz
  clear hz
  clear ha hl hw hm hg hn
  go_enter Try.func5, Try.ntmps5
  go_wp2_with fail
  refine (live_any _).mono ?_
  rintro e w1 ⟨rfl, hb⟩
  have ha := hb.alloc hb.size (.cells #[.slice A1 n1 c1, .int .i64 0] 24)
  have han := (Below.refl w1.heap.size w1).alloc (Nat.le_refl _) (.cells #[.slice A1 n1 c1, .int .i64 0] 24)
  replace O_a := Lib.hid (O_a.out.below ha)
  replace O_l := Lib.hid (O_l.out.below ha)
  replace O_w := Lib.hid (O_w.out.below ha)
  replace BB := Lib.hid (below3 BB.out ha)
  have K_d := Lib.hid (Bk.new w1 24 #[.slice A1 n1 c1, .int .i64 0])
  clear ha hb han
  have HQ1 := Lib.hid (size_alloc w1 (.cells #[.slice A1 n1 c1, .int .i64 0] 24))
  go_wp2_with (first
    | (at_builtin
       refine wpList_append_octs _ rfl _ _ 22 rfl 5 Try.underlying22 Try.octetInfo (w1.heap.size + 1) none 0 [] 0 rfl rfl (OwnO.nil_ _ _ _) A0 n0 c0 cs rfl O_a.out (by simp; omega) (by rw [HQ1.out]; exact Nat.le_refl _) ?_
       intro X2 d2 w2 hown2 hg2
       simp only [List.nil_append] at hown2 ⊢
       rw [HA.out]
       have P2 := Lib.hid hown2
       have G2 := Lib.hid hg2
       have O_l2 := Lib.hid (O_l.out.below ((Below.refl _ _).grown hg2 (Nat.le_refl _) (by simp [Value.ownBlock])))
       have z2 := Lib.hid (Nat.le_trans (Nat.le_of_eq HQ1.out.symm) hg2.size)
       clear hown2 hg2)
    | (at_builtin
       refine wpList_append_octs _ rfl _ _ 22 rfl 5 Try.underlying22 Try.octetInfo (w1.heap.size + 1) X2 d2 cs n0 HA.out.symm rfl P2.out A1 n1 c1 bs rfl O_l2.out (by rw [HA.out]; omega) z2.out ?_
       intro X3 d3 w3 hown3 hg3
       rw [HL.out]
       have hb : Below (w1.alloc (.cells #[.slice A1 n1 c1, .int .i64 0] 24)).heap.size (w1.alloc (.cells #[.slice A1 n1 c1, .int .i64 0] 24)) w3 := ((Below.refl _ _).grown G2.out (Nat.le_refl _) (by simp [Value.ownBlock])).grown hg3 (by rw [HQ1.out]; exact z2.out) (by intro j hj; rw [HQ1.out]; exact P2.out.block j hj)
       have ho3 : Octs w3 X3 (n0 + n1) (cs ++ bs) := by have := hown3.octs; rwa [HL.out] at this
       clear hown3 hg3
       have ha := hb.alloc hb.size (.cells #[.slice X3 (n0 + n1) d3, .int .i64 (n0 : Int)] 24)
       have han := (Below.refl w3.heap.size w3).alloc (Nat.le_refl _) (.cells #[.slice X3 (n0 + n1) d3, .int .i64 (n0 : Int)] 24)
       replace K_d := Lib.hid (K_d.out.below ha K_d.out.lt)
       replace O_a := Lib.hid (O_a.out.below ha)
       replace O_l := Lib.hid (O_l.out.below ha)
       replace O_w := Lib.hid (O_w.out.below ha)
       replace BB := Lib.hid (below3 BB.out ha)
       have O_o := Lib.hid (ho3.below han)
       have K_o := Lib.hid (Bk.new w3 24 #[.slice X3 (n0 + n1) d3, .int .i64 (n0 : Int)])
       clear ha hb han ho3
       have a_d := K_d.out.c0
       have b_d := K_d.out.c1)
    | fail)
  skip
  refine (below_no A1 n1 c1 0 m _ (by omega) (fun h => HM.out h.2.2)).mono ?_
  rintro e w4 ⟨Ax, cx, rfl, -, hb⟩
  clear a_d b_d
  have ha := hb.alloc hb.size (.cells #[.slice Ax 0 cx, .int .i64 0] 24)
  have han := (Below.refl w4.heap.size w4).alloc (Nat.le_refl _) (.cells #[.slice Ax 0 cx, .int .i64 0] 24)
  replace K_d := Lib.hid (K_d.out.below ha K_d.out.lt)
  replace K_o := Lib.hid (K_o.out.below ha K_o.out.lt)
  replace O_a := Lib.hid (O_a.out.below ha)
  replace O_l := Lib.hid (O_l.out.below ha)
  replace O_w := Lib.hid (O_w.out.below ha)
  replace O_o := Lib.hid (O_o.out.below ha)
  replace BB := Lib.hid (below3 BB.out ha)
  have K_x := Lib.hid (Bk.new w4 24 #[.slice Ax 0 cx, .int .i64 0])
  clear ha hb han
  have a_o := K_o.out.c0
  have b_o := K_o.out.c1
  go_wp2_with fail
  refine (below_no X3 (n0 + n1) d3 n0 m _ (by omega) (fun h => HM.out h.2.2)).mono ?_
  rintro e w5 ⟨Ay, cy, rfl, -, hb⟩
  clear a_o b_o
  have ha := hb.alloc hb.size (.cells #[.slice Ay 0 cy, .int .i64 0] 24)
  have han := (Below.refl w5.heap.size w5).alloc (Nat.le_refl _) (.cells #[.slice Ay 0 cy, .int .i64 0] 24)
  replace K_d := Lib.hid (K_d.out.below ha K_d.out.lt)
  replace K_o := Lib.hid (K_o.out.below ha K_o.out.lt)
  replace K_x := Lib.hid (K_x.out.below ha K_x.out.lt)
  replace O_a := Lib.hid (O_a.out.below ha)
  replace O_l := Lib.hid (O_l.out.below ha)
  replace O_w := Lib.hid (O_w.out.below ha)
  replace O_o := Lib.hid (O_o.out.below ha)
  replace BB := Lib.hid (below3 BB.out ha)
  have K_y := Lib.hid (Bk.new w5 24 #[.slice Ay 0 cy, .int .i64 0])
  clear ha hb han
  have a_d := K_d.out.c0
  have b_d := K_d.out.c1
  go_wp2_with fail
  refine (order_no A1 n1 c1 0 n _ (by omega) (fun h => HN.out h.2.2)).mono ?_
  rintro e w6 ⟨Ap, cp, Bp, dp, rfl, hp, -, hb⟩
  clear a_d b_d
  have ha := hb.alloc hb.size (.cells #[.slice Ap 0 cp, .int .i64 0] 24)
  have han := (Below.refl w6.heap.size w6).alloc (Nat.le_refl _) (.cells #[.slice Ap 0 cp, .int .i64 0] 24)
  replace K_d := Lib.hid (K_d.out.below ha K_d.out.lt)
  replace K_o := Lib.hid (K_o.out.below ha K_o.out.lt)
  replace K_x := Lib.hid (K_x.out.below ha K_x.out.lt)
  replace K_y := Lib.hid (K_y.out.below ha K_y.out.lt)
  replace O_a := Lib.hid (O_a.out.below ha)
  replace O_l := Lib.hid (O_l.out.below ha)
  replace O_w := Lib.hid (O_w.out.below ha)
  replace O_o := Lib.hid (O_o.out.below ha)
  replace BB := Lib.hid (below3 BB.out ha)
  have O_p := Lib.hid (hp.ints.below han)
  have K_p := Lib.hid (Bk.new w6 24 #[.slice Ap 0 cp, .int .i64 0])
  clear ha hb han hp
  have a_o := K_o.out.c0
  have b_o := K_o.out.c1
  go_wp2_with fail
  refine (order_no X3 (n0 + n1) d3 n0 n _ (by omega) (fun h => HN.out h.2.2)).mono ?_
  rintro e w7 ⟨Aq, cq, Bq, dq, rfl, hq, -, hb⟩
  clear a_o b_o
  have ha := hb.alloc hb.size (.cells #[.slice Aq 0 cq, .int .i64 0] 24)
  have han := (Below.refl w7.heap.size w7).alloc (Nat.le_refl _) (.cells #[.slice Aq 0 cq, .int .i64 0] 24)
  replace K_d := Lib.hid (K_d.out.below ha K_d.out.lt)
  replace K_o := Lib.hid (K_o.out.below ha K_o.out.lt)
  replace K_x := Lib.hid (K_x.out.below ha K_x.out.lt)
  replace K_y := Lib.hid (K_y.out.below ha K_y.out.lt)
  replace K_p := Lib.hid (K_p.out.below ha K_p.out.lt)
  replace O_a := Lib.hid (O_a.out.below ha)
  replace O_l := Lib.hid (O_l.out.below ha)
  replace O_w := Lib.hid (O_w.out.below ha)
  replace O_o := Lib.hid (O_o.out.below ha)
  replace O_p := Lib.hid (O_p.out.below ha)
  replace BB := Lib.hid (below3 BB.out ha)
  have O_q := Lib.hid (hq.ints.below han)
  have K_q := Lib.hid (Bk.new w7 24 #[.slice Aq 0 cq, .int .i64 0])
  clear ha hb han hq
  have a_d := K_d.out.c0
  have b_d := K_d.out.c1
  go_wp2_with fail
  refine (heavy_0 A1 B n1 c1 k d bs ws z _ O_l.out O_w.out HG.out HZ.out).mono ?_
  rintro e w8 ⟨As, ns, cs2, sq, rfl, hb⟩
  clear a_d b_d
  have ha := hb.alloc hb.size (.cells #[.slice As ns cs2, .int .i64 sq] 24)
  have han := (Below.refl w8.heap.size w8).alloc (Nat.le_refl _) (.cells #[.slice As ns cs2, .int .i64 sq] 24)
  replace K_d := Lib.hid (K_d.out.below ha K_d.out.lt)
  replace K_o := Lib.hid (K_o.out.below ha K_o.out.lt)
  replace K_x := Lib.hid (K_x.out.below ha K_x.out.lt)
  replace K_y := Lib.hid (K_y.out.below ha K_y.out.lt)
  replace K_p := Lib.hid (K_p.out.below ha K_p.out.lt)
  replace K_q := Lib.hid (K_q.out.below ha K_q.out.lt)
  replace O_a := Lib.hid (O_a.out.below ha)
  replace O_l := Lib.hid (O_l.out.below ha)
  replace O_w := Lib.hid (O_w.out.below ha)
  replace O_o := Lib.hid (O_o.out.below ha)
  replace O_p := Lib.hid (O_p.out.below ha)
  replace O_q := Lib.hid (O_q.out.below ha)
  replace BB := Lib.hid (below3 BB.out ha)
  have K_s := Lib.hid (Bk.new w8 24 #[.slice As ns cs2, .int .i64 sq])
  clear ha hb han
  have a_o := K_o.out.c0
  have b_o := K_o.out.c1
  go_wp2_with fail
  refine (heavy_b X3 B n0 n1 d3 k d cs bs ws z _ O_o.out HA.out O_w.out HG.out HZ.out).mono ?_
  rintro e w9 ⟨At, nt, ct, tq, rfl, hb⟩
  clear a_o b_o
  have ha := hb.alloc hb.size (.cells #[.slice At nt ct, .int .i64 tq] 24)
  have han := (Below.refl w9.heap.size w9).alloc (Nat.le_refl _) (.cells #[.slice At nt ct, .int .i64 tq] 24)
  replace K_d := Lib.hid (K_d.out.below ha K_d.out.lt)
  replace K_o := Lib.hid (K_o.out.below ha K_o.out.lt)
  replace K_x := Lib.hid (K_x.out.below ha K_x.out.lt)
  replace K_y := Lib.hid (K_y.out.below ha K_y.out.lt)
  replace K_p := Lib.hid (K_p.out.below ha K_p.out.lt)
  replace K_q := Lib.hid (K_q.out.below ha K_q.out.lt)
  replace K_s := Lib.hid (K_s.out.below ha K_s.out.lt)
  replace O_a := Lib.hid (O_a.out.below ha)
  replace O_l := Lib.hid (O_l.out.below ha)
  replace O_w := Lib.hid (O_w.out.below ha)
  replace O_o := Lib.hid (O_o.out.below ha)
  replace O_p := Lib.hid (O_p.out.below ha)
  replace O_q := Lib.hid (O_q.out.below ha)
  replace BB := Lib.hid (below3 BB.out ha)
  have K_t := Lib.hid (Bk.new w9 24 #[.slice At nt ct, .int .i64 tq])
  clear ha hb han
  go_wp2_with fail
  refine (sameInts_yes _ _ 0 _ _ _ _ O_p.out O_q.out).mono ?_
  rintro e w10 ⟨rfl, hb⟩
  have ha := hb
  replace K_d := Lib.hid (K_d.out.below ha K_d.out.lt)
  replace K_o := Lib.hid (K_o.out.below ha K_o.out.lt)
  replace K_x := Lib.hid (K_x.out.below ha K_x.out.lt)
  replace K_y := Lib.hid (K_y.out.below ha K_y.out.lt)
  replace K_p := Lib.hid (K_p.out.below ha K_p.out.lt)
  replace K_q := Lib.hid (K_q.out.below ha K_q.out.lt)
  replace K_s := Lib.hid (K_s.out.below ha K_s.out.lt)
  replace K_t := Lib.hid (K_t.out.below ha K_t.out.lt)
  replace O_a := Lib.hid (O_a.out.below ha)
  replace O_l := Lib.hid (O_l.out.below ha)
  replace O_w := Lib.hid (O_w.out.below ha)
  replace O_o := Lib.hid (O_o.out.below ha)
  replace O_p := Lib.hid (O_p.out.below ha)
  replace O_q := Lib.hid (O_q.out.below ha)
  replace BB := Lib.hid (below3 BB.out ha)
  clear ha hb
  go_wp2
  go_ret
  exact ⟨rfl, BB.out⟩

set_option maxRecDepth 100000 in
set_option maxHeartbeats 4000000 in
theorem alone_000 (A0 A1 B : Option Addr) (n0 c0 n1 c1 k d : Nat) (m : Int) (n : Int) (cs bs ws : List Int) (w : World) (ha : Octs w A0 n0 cs) (hl : Octs w A1 n1 bs) (hw : Ints w B k ws) (h0 : n0 ≤ 300) (h1 : n1 ≤ 300) (hk : k ≤ 300) (hm : ¬ (1 ≤ m ∧ m ≤ 65536)) (hn : ¬ (0 ≤ n ∧ n ≤ 256)) (hg : weightE ws ≠ 0) :
    Calls Try.prog 5 #[.slice A0 n0 c0, .slice A1 n1 c1, .int .i64 m, .int .i64 n, .slice B k d] w (TrueAns w) := by
  have O_a := Lib.hid ha
  have O_l := Lib.hid hl
  have O_w := Lib.hid hw
  have BB := Lib.hid (Below.refl w.heap.size w)
  have HM := Lib.hid hm
  have HN := Lib.hid hn
  have HG := Lib.hid hg
  have HA := Lib.hid ha.1
  have HL := Lib.hid (show (cs ++ bs).length = n0 + n1 by rw [List.length_append, ha.1, hl.1])
  obtain ⟨E, hE⟩ : ∃ E, weightE ws = E := ⟨_, rfl⟩
  have hE0 : E ≠ 0 := hE ▸ hg
  have HE := Lib.hid hE
  clear hE
  clear ha hl hw hm hg hn
  go_enter Try.func5, Try.ntmps5
  go_wp2_with fail
  refine (live_any _).mono ?_
  rintro e w1 ⟨rfl, hb⟩
  have ha := hb.alloc hb.size (.cells #[.slice A1 n1 c1, .int .i64 0] 24)
  have han := (Below.refl w1.heap.size w1).alloc (Nat.le_refl _) (.cells #[.slice A1 n1 c1, .int .i64 0] 24)
  replace O_a := Lib.hid (O_a.out.below ha)
  replace O_l := Lib.hid (O_l.out.below ha)
  replace O_w := Lib.hid (O_w.out.below ha)
  replace BB := Lib.hid (below3 BB.out ha)
  have K_d := Lib.hid (Bk.new w1 24 #[.slice A1 n1 c1, .int .i64 0])
  clear ha hb han
  have HQ1 := Lib.hid (size_alloc w1 (.cells #[.slice A1 n1 c1, .int .i64 0] 24))
  go_wp2_with (first
    | (at_builtin
       refine wpList_append_octs _ rfl _ _ 22 rfl 5 Try.underlying22 Try.octetInfo (w1.heap.size + 1) none 0 [] 0 rfl rfl (OwnO.nil_ _ _ _) A0 n0 c0 cs rfl O_a.out (by simp; omega) (by rw [HQ1.out]; exact Nat.le_refl _) ?_
       intro X2 d2 w2 hown2 hg2
       simp only [List.nil_append] at hown2 ⊢
       rw [HA.out]
       have P2 := Lib.hid hown2
       have G2 := Lib.hid hg2
       have O_l2 := Lib.hid (O_l.out.below ((Below.refl _ _).grown hg2 (Nat.le_refl _) (by simp [Value.ownBlock])))
       have z2 := Lib.hid (Nat.le_trans (Nat.le_of_eq HQ1.out.symm) hg2.size)
       clear hown2 hg2)
    | (at_builtin
       refine wpList_append_octs _ rfl _ _ 22 rfl 5 Try.underlying22 Try.octetInfo (w1.heap.size + 1) X2 d2 cs n0 HA.out.symm rfl P2.out A1 n1 c1 bs rfl O_l2.out (by rw [HA.out]; omega) z2.out ?_
       intro X3 d3 w3 hown3 hg3
       rw [HL.out]
       have hb : Below (w1.alloc (.cells #[.slice A1 n1 c1, .int .i64 0] 24)).heap.size (w1.alloc (.cells #[.slice A1 n1 c1, .int .i64 0] 24)) w3 := ((Below.refl _ _).grown G2.out (Nat.le_refl _) (by simp [Value.ownBlock])).grown hg3 (by rw [HQ1.out]; exact z2.out) (by intro j hj; rw [HQ1.out]; exact P2.out.block j hj)
       have ho3 : Octs w3 X3 (n0 + n1) (cs ++ bs) := by have := hown3.octs; rwa [HL.out] at this
       clear hown3 hg3
       have ha := hb.alloc hb.size (.cells #[.slice X3 (n0 + n1) d3, .int .i64 (n0 : Int)] 24)
       have han := (Below.refl w3.heap.size w3).alloc (Nat.le_refl _) (.cells #[.slice X3 (n0 + n1) d3, .int .i64 (n0 : Int)] 24)
       replace K_d := Lib.hid (K_d.out.below ha K_d.out.lt)
       replace O_a := Lib.hid (O_a.out.below ha)
       replace O_l := Lib.hid (O_l.out.below ha)
       replace O_w := Lib.hid (O_w.out.below ha)
       replace BB := Lib.hid (below3 BB.out ha)
       have O_o := Lib.hid (ho3.below han)
       have K_o := Lib.hid (Bk.new w3 24 #[.slice X3 (n0 + n1) d3, .int .i64 (n0 : Int)])
       clear ha hb han ho3
       have a_d := K_d.out.c0
       have b_d := K_d.out.c1)
    | fail)
  skip
  refine (below_no A1 n1 c1 0 m _ (by omega) (fun h => HM.out h.2.2)).mono ?_
  rintro e w4 ⟨Ax, cx, rfl, -, hb⟩
  clear a_d b_d
  have ha := hb.alloc hb.size (.cells #[.slice Ax 0 cx, .int .i64 0] 24)
  have han := (Below.refl w4.heap.size w4).alloc (Nat.le_refl _) (.cells #[.slice Ax 0 cx, .int .i64 0] 24)
  replace K_d := Lib.hid (K_d.out.below ha K_d.out.lt)
  replace K_o := Lib.hid (K_o.out.below ha K_o.out.lt)
  replace O_a := Lib.hid (O_a.out.below ha)
  replace O_l := Lib.hid (O_l.out.below ha)
  replace O_w := Lib.hid (O_w.out.below ha)
  replace O_o := Lib.hid (O_o.out.below ha)
  replace BB := Lib.hid (below3 BB.out ha)
  have K_x := Lib.hid (Bk.new w4 24 #[.slice Ax 0 cx, .int .i64 0])
  clear ha hb han
  have a_o := K_o.out.c0
  have b_o := K_o.out.c1
  go_wp2_with fail
  refine (below_no X3 (n0 + n1) d3 n0 m _ (by omega) (fun h => HM.out h.2.2)).mono ?_
  rintro e w5 ⟨Ay, cy, rfl, -, hb⟩
  clear a_o b_o
  have ha := hb.alloc hb.size (.cells #[.slice Ay 0 cy, .int .i64 0] 24)
  have han := (Below.refl w5.heap.size w5).alloc (Nat.le_refl _) (.cells #[.slice Ay 0 cy, .int .i64 0] 24)
  replace K_d := Lib.hid (K_d.out.below ha K_d.out.lt)
  replace K_o := Lib.hid (K_o.out.below ha K_o.out.lt)
  replace K_x := Lib.hid (K_x.out.below ha K_x.out.lt)
  replace O_a := Lib.hid (O_a.out.below ha)
  replace O_l := Lib.hid (O_l.out.below ha)
  replace O_w := Lib.hid (O_w.out.below ha)
  replace O_o := Lib.hid (O_o.out.below ha)
  replace BB := Lib.hid (below3 BB.out ha)
  have K_y := Lib.hid (Bk.new w5 24 #[.slice Ay 0 cy, .int .i64 0])
  clear ha hb han
  have a_d := K_d.out.c0
  have b_d := K_d.out.c1
  go_wp2_with fail
  refine (order_no A1 n1 c1 0 n _ (by omega) (fun h => HN.out h.2.2)).mono ?_
  rintro e w6 ⟨Ap, cp, Bp, dp, rfl, hp, -, hb⟩
  clear a_d b_d
  have ha := hb.alloc hb.size (.cells #[.slice Ap 0 cp, .int .i64 0] 24)
  have han := (Below.refl w6.heap.size w6).alloc (Nat.le_refl _) (.cells #[.slice Ap 0 cp, .int .i64 0] 24)
  replace K_d := Lib.hid (K_d.out.below ha K_d.out.lt)
  replace K_o := Lib.hid (K_o.out.below ha K_o.out.lt)
  replace K_x := Lib.hid (K_x.out.below ha K_x.out.lt)
  replace K_y := Lib.hid (K_y.out.below ha K_y.out.lt)
  replace O_a := Lib.hid (O_a.out.below ha)
  replace O_l := Lib.hid (O_l.out.below ha)
  replace O_w := Lib.hid (O_w.out.below ha)
  replace O_o := Lib.hid (O_o.out.below ha)
  replace BB := Lib.hid (below3 BB.out ha)
  have O_p := Lib.hid (hp.ints.below han)
  have K_p := Lib.hid (Bk.new w6 24 #[.slice Ap 0 cp, .int .i64 0])
  clear ha hb han hp
  have a_o := K_o.out.c0
  have b_o := K_o.out.c1
  go_wp2_with fail
  refine (order_no X3 (n0 + n1) d3 n0 n _ (by omega) (fun h => HN.out h.2.2)).mono ?_
  rintro e w7 ⟨Aq, cq, Bq, dq, rfl, hq, -, hb⟩
  clear a_o b_o
  have ha := hb.alloc hb.size (.cells #[.slice Aq 0 cq, .int .i64 0] 24)
  have han := (Below.refl w7.heap.size w7).alloc (Nat.le_refl _) (.cells #[.slice Aq 0 cq, .int .i64 0] 24)
  replace K_d := Lib.hid (K_d.out.below ha K_d.out.lt)
  replace K_o := Lib.hid (K_o.out.below ha K_o.out.lt)
  replace K_x := Lib.hid (K_x.out.below ha K_x.out.lt)
  replace K_y := Lib.hid (K_y.out.below ha K_y.out.lt)
  replace K_p := Lib.hid (K_p.out.below ha K_p.out.lt)
  replace O_a := Lib.hid (O_a.out.below ha)
  replace O_l := Lib.hid (O_l.out.below ha)
  replace O_w := Lib.hid (O_w.out.below ha)
  replace O_o := Lib.hid (O_o.out.below ha)
  replace O_p := Lib.hid (O_p.out.below ha)
  replace BB := Lib.hid (below3 BB.out ha)
  have O_q := Lib.hid (hq.ints.below han)
  have K_q := Lib.hid (Bk.new w7 24 #[.slice Aq 0 cq, .int .i64 0])
  clear ha hb han hq
  have a_d := K_d.out.c0
  have b_d := K_d.out.c1
  go_wp2_with fail
  refine (heavy_no A1 B n1 c1 k d 0 ws E _ (by omega) (by omega) O_w.out HE.out hE0).mono ?_
  rintro e w8 ⟨As, cs2, rfl, -, hb⟩
  clear a_d b_d
  have ha := hb.alloc hb.size (.cells #[.slice As 0 cs2, .int .i64 0] 24)
  have han := (Below.refl w8.heap.size w8).alloc (Nat.le_refl _) (.cells #[.slice As 0 cs2, .int .i64 0] 24)
  replace K_d := Lib.hid (K_d.out.below ha K_d.out.lt)
  replace K_o := Lib.hid (K_o.out.below ha K_o.out.lt)
  replace K_x := Lib.hid (K_x.out.below ha K_x.out.lt)
  replace K_y := Lib.hid (K_y.out.below ha K_y.out.lt)
  replace K_p := Lib.hid (K_p.out.below ha K_p.out.lt)
  replace K_q := Lib.hid (K_q.out.below ha K_q.out.lt)
  replace O_a := Lib.hid (O_a.out.below ha)
  replace O_l := Lib.hid (O_l.out.below ha)
  replace O_w := Lib.hid (O_w.out.below ha)
  replace O_o := Lib.hid (O_o.out.below ha)
  replace O_p := Lib.hid (O_p.out.below ha)
  replace O_q := Lib.hid (O_q.out.below ha)
  replace BB := Lib.hid (below3 BB.out ha)
  have K_s := Lib.hid (Bk.new w8 24 #[.slice As 0 cs2, .int .i64 0])
  clear ha hb han
  have a_o := K_o.out.c0
  have b_o := K_o.out.c1
  go_wp2_with fail
  refine (heavy_no X3 B (n0 + n1) d3 k d n0 ws E _ (by omega) (by omega) O_w.out HE.out hE0).mono ?_
  rintro e w9 ⟨At, ct, rfl, -, hb⟩
  clear a_o b_o
  have ha := hb.alloc hb.size (.cells #[.slice At 0 ct, .int .i64 0] 24)
  have han := (Below.refl w9.heap.size w9).alloc (Nat.le_refl _) (.cells #[.slice At 0 ct, .int .i64 0] 24)
  replace K_d := Lib.hid (K_d.out.below ha K_d.out.lt)
  replace K_o := Lib.hid (K_o.out.below ha K_o.out.lt)
  replace K_x := Lib.hid (K_x.out.below ha K_x.out.lt)
  replace K_y := Lib.hid (K_y.out.below ha K_y.out.lt)
  replace K_p := Lib.hid (K_p.out.below ha K_p.out.lt)
  replace K_q := Lib.hid (K_q.out.below ha K_q.out.lt)
  replace K_s := Lib.hid (K_s.out.below ha K_s.out.lt)
  replace O_a := Lib.hid (O_a.out.below ha)
  replace O_l := Lib.hid (O_l.out.below ha)
  replace O_w := Lib.hid (O_w.out.below ha)
  replace O_o := Lib.hid (O_o.out.below ha)
  replace O_p := Lib.hid (O_p.out.below ha)
  replace O_q := Lib.hid (O_q.out.below ha)
  replace BB := Lib.hid (below3 BB.out ha)
  have K_t := Lib.hid (Bk.new w9 24 #[.slice At 0 ct, .int .i64 0])
  clear ha hb han
  go_wp2_with fail
  refine (sameInts_yes _ _ 0 _ _ _ _ O_p.out O_q.out).mono ?_
  rintro e w10 ⟨rfl, hb⟩
  have ha := hb
  replace K_d := Lib.hid (K_d.out.below ha K_d.out.lt)
  replace K_o := Lib.hid (K_o.out.below ha K_o.out.lt)
  replace K_x := Lib.hid (K_x.out.below ha K_x.out.lt)
  replace K_y := Lib.hid (K_y.out.below ha K_y.out.lt)
  replace K_p := Lib.hid (K_p.out.below ha K_p.out.lt)
  replace K_q := Lib.hid (K_q.out.below ha K_q.out.lt)
  replace K_s := Lib.hid (K_s.out.below ha K_s.out.lt)
  replace K_t := Lib.hid (K_t.out.below ha K_t.out.lt)
  replace O_a := Lib.hid (O_a.out.below ha)
  replace O_l := Lib.hid (O_l.out.below ha)
  replace O_w := Lib.hid (O_w.out.below ha)
  replace O_o := Lib.hid (O_o.out.below ha)
  replace O_p := Lib.hid (O_p.out.below ha)
  replace O_q := Lib.hid (O_q.out.below ha)
  replace BB := Lib.hid (below3 BB.out ha)
  clear ha hb
  go_wp2
  go_ret
  exact ⟨rfl, BB.out⟩

theorem alone_any (A0 A1 B : Option Addr) (n0 c0 n1 c1 k d : Nat) (m n : Int) (cs bs ws : List Int) (w : World) (h0 : n0 ≤ 9223372036854775807) (ha : n0 ≤ 140737488351232 → Octs w A0 n0 cs) (h1 : n1 ≤ 9223372036854775807) (hl : n1 ≤ 140737488351232 → Octs w A1 n1 bs) (hw : Ints w B k ws) :
    Calls Try.prog 5 #[.slice A0 n0 c0, .slice A1 n1 c1, .int .i64 m, .int .i64 n, .slice B k d] w (TrueAns w) := by
  by_cases h : 300 < n0 ∨ 300 < n1 ∨ 300 < k
  · exact alone_big A0 A1 B n0 c0 n1 c1 k d m n w h0 h1 hw.2.1 h
  · have g0 : n0 ≤ 300 := by omega
    have g1 : n1 ≤ 300 := by omega
    have g2 : k ≤ 300 := by omega
    have ha := ha (by omega)
    have hl := hl (by omega)
    by_cases hn : 0 ≤ n ∧ n ≤ 256
    · obtain ⟨n, rfl⟩ := Int.eq_ofNat_of_zero_le hn.1
      by_cases hm : 1 ≤ m ∧ m ≤ 65536 <;> by_cases hg : weightE ws = 0
      · exact alone_111 A0 A1 B n0 c0 n1 c1 k d m n cs bs ws w ha hl hw g0 g1 g2 hm (by omega) hg
      · exact alone_110 A0 A1 B n0 c0 n1 c1 k d m n cs bs ws w ha hl hw g0 g1 g2 hm (by omega) hg
      · exact alone_011 A0 A1 B n0 c0 n1 c1 k d m n cs bs ws w ha hl hw g0 g1 g2 hm (by omega) hg
      · exact alone_010 A0 A1 B n0 c0 n1 c1 k d m n cs bs ws w ha hl hw g0 g1 g2 hm (by omega) hg
    · by_cases hm : 1 ≤ m ∧ m ≤ 65536 <;> by_cases hg : weightE ws = 0
      · exact alone_101 A0 A1 B n0 c0 n1 c1 k d m n cs bs ws w ha hl hw g0 g1 g2 hm hn hg
      · exact alone_100 A0 A1 B n0 c0 n1 c1 k d m n cs bs ws w ha hl hw g0 g1 g2 hm hn hg
      · exact alone_001 A0 A1 B n0 c0 n1 c1 k d m n cs bs ws w ha hl hw g0 g1 g2 hm hn hg
      · exact alone_000 A0 A1 B n0 c0 n1 c1 k d m n cs bs ws w ha hl hw g0 g1 g2 hm hn hg

end Go.Proofs.Ytllanhboaoedmaa

/-
  The walk of the law ChainTells of layer 6: new chains, whether chains may be, a list's nodes, in which list a node is, and whether two are the same, are the document's.
-/
import Derived.Test.YtiheeehegjfmgaaUse
import Derived.Test.YtiheeehegjfmgaaCalm
namespace Go.Proofs.Ytiheeehegjfmgaa
open Go.RowKit

theorem calm_chn {ops : Array Oper} {S : World → Prop} {o : Oper} {a : Act} (hw : Region.wanted o (yielded ops a.tmps) = true) (x : Operand) (ho : o.op = .load 24 x) (g : Nat) (hx : a.eval x = .pointer (some ⟨g, 0, none⟩)) {u v z : Value}
    (hS : ∀ w, S w → Bk w g 24 #[u, v, z]) : Calm Try.prog ops S o (.agg #[u, v, z]) a :=
  calm_of hw fun w hw' => by
    unfold execOp
    simp only [ho, hx, Instr.loadAt, Instr.sureAddr, Sem.run_bind, Sem.run_pure, Result.andThen_ok, run_loadVar_row w g 24 24 #[u, v, z] (0, 0) _ (hS w hw') Try.underlying24 rfl (by kernel_rfl)]

set_option maxRecDepth 100000 in
set_option maxHeartbeats 4000000 in
theorem ltells_long (A B D A2 B2 D2 : Option Addr) (n a m b k d n2 a2 m2 b2 k2 d2 : Nat) (nodes lists list node : Int) (w : World) (hn : n ≤ 9223372036854775807) (hm : m ≤ 9223372036854775807) (hk : k ≤ 9223372036854775807) (hn2 : n2 ≤ 9223372036854775807) (hm2 : m2 ≤ 9223372036854775807) (hk2 : k2 ≤ 9223372036854775807) (h : fewB n m k = false ∨ fewB n m k = true ∧ fewB n2 m2 k2 = false ∨ fewB n m k = true ∧ fewB n2 m2 k2 = true ∧ (300 < nodes ∧ nodes ≤ 1024)) :
    Calls Try.prog 4 #[.int .i64 nodes, .int .i64 lists, .agg #[.slice A n a, .slice B m b, .slice D k d], .agg #[.slice A2 n2 a2, .slice B2 m2 b2, .slice D2 k2 d2], .int .i64 list, .int .i64 node] w (TrueAns w) := by
  have k0 := (Bk.new w 24 #[.slice A n a, .slice B m b, .slice D k d]).alloc (.cells #[.slice A2 n2 a2, .slice B2 m2 b2, .slice D2 k2 d2] 24)
  have k1 := Bk.new (w.alloc (.cells #[.slice A n a, .slice B m b, .slice D k d] 24)) 24 #[.slice A2 n2 a2, .slice B2 m2 b2, .slice D2 k2 d2]
  rw [size_alloc] at k1
  have hb0 := ((Below.refl w.heap.size w).alloc (Nat.le_refl _) (.cells #[.slice A n a, .slice B m b, .slice D k d] 24)).alloc (by simp) (.cells #[.slice A2 n2 a2, .slice B2 m2 b2, .slice D2 k2 d2] 24)
  have K_c := Lib.hid k0
  have K_o := Lib.hid k1
  have BB := Lib.hid hb0
  clear k0 k1 hb0
  rcases h with h1 | ⟨h1, h2⟩ | ⟨h1, h2, h3, h4⟩
  · have HF1 := Lib.hid h1
    clear h1
    go_enter Try.func4, Try.ntmps4
    go_wp2_with fail
    refine (live_any _).mono ?_
    rintro e w1 ⟨rfl, hb⟩
    have ha := hb
    replace K_c := Lib.hid (K_c.out.below ha K_c.out.lt)
    replace K_o := Lib.hid (K_o.out.below ha K_o.out.lt)
    replace BB := Lib.hid (below3 BB.out ha)
    clear ha hb
    have a_c := K_c.out.e0
    have b_c := K_c.out.e1
    have c_c := K_c.out.e2
    go_wp2_with fail
    refine (few_any A B D n a m b k d _ hn hm hk).mono ?_
    rw [HF1.out]
    rintro e w2 ⟨rfl, hb⟩
    clear a_c b_c c_c
    have ha := hb
    replace K_c := Lib.hid (K_c.out.below ha K_c.out.lt)
    replace K_o := Lib.hid (K_o.out.below ha K_o.out.lt)
    replace BB := Lib.hid (below3 BB.out ha)
    clear ha hb
    go_wp2
    go_ret
    exact ⟨rfl, BB.out⟩
  · have HF1 := Lib.hid h1
    have HF2 := Lib.hid h2
    clear h1 h2
    go_enter Try.func4, Try.ntmps4
    go_wp2_with fail
    refine (live_any _).mono ?_
    rintro e w1 ⟨rfl, hb⟩
    have ha := hb
    replace K_c := Lib.hid (K_c.out.below ha K_c.out.lt)
    replace K_o := Lib.hid (K_o.out.below ha K_o.out.lt)
    replace BB := Lib.hid (below3 BB.out ha)
    clear ha hb
    have a_c := K_c.out.e0
    have b_c := K_c.out.e1
    have c_c := K_c.out.e2
    go_wp2_with fail
    refine (few_any A B D n a m b k d _ hn hm hk).mono ?_
    rw [HF1.out]
    rintro e w2 ⟨rfl, hb⟩
    clear a_c b_c c_c
    have ha := hb
    replace K_c := Lib.hid (K_c.out.below ha K_c.out.lt)
    replace K_o := Lib.hid (K_o.out.below ha K_o.out.lt)
    replace BB := Lib.hid (below3 BB.out ha)
    clear ha hb
    have a_o := K_o.out.e0
    have b_o := K_o.out.e1
    have c_o := K_o.out.e2
    go_wp2_with fail
    refine (few_any A2 B2 D2 n2 a2 m2 b2 k2 d2 _ hn2 hm2 hk2).mono ?_
    rw [HF2.out]
    rintro e w3 ⟨rfl, hb⟩
    clear a_o b_o c_o
    have ha := hb
    replace K_c := Lib.hid (K_c.out.below ha K_c.out.lt)
    replace K_o := Lib.hid (K_o.out.below ha K_o.out.lt)
    replace BB := Lib.hid (below3 BB.out ha)
    clear ha hb
    go_wp2
    go_ret
    exact ⟨rfl, BB.out⟩
  · have HF1 := Lib.hid h1
    have HF2 := Lib.hid h2
    clear h1 h2
    go_enter Try.func4, Try.ntmps4
    go_wp2_with fail
    refine (live_any _).mono ?_
    rintro e w1 ⟨rfl, hb⟩
    have ha := hb
    replace K_c := Lib.hid (K_c.out.below ha K_c.out.lt)
    replace K_o := Lib.hid (K_o.out.below ha K_o.out.lt)
    replace BB := Lib.hid (below3 BB.out ha)
    clear ha hb
    have a_c := K_c.out.e0
    have b_c := K_c.out.e1
    have c_c := K_c.out.e2
    go_wp2_with fail
    refine (few_any A B D n a m b k d _ hn hm hk).mono ?_
    rw [HF1.out]
    rintro e w2 ⟨rfl, hb⟩
    clear a_c b_c c_c
    have ha := hb
    replace K_c := Lib.hid (K_c.out.below ha K_c.out.lt)
    replace K_o := Lib.hid (K_o.out.below ha K_o.out.lt)
    replace BB := Lib.hid (below3 BB.out ha)
    clear ha hb
    have a_o := K_o.out.e0
    have b_o := K_o.out.e1
    have c_o := K_o.out.e2
    go_wp2_with fail
    refine (few_any A2 B2 D2 n2 a2 m2 b2 k2 d2 _ hn2 hm2 hk2).mono ?_
    rw [HF2.out]
    rintro e w3 ⟨rfl, hb⟩
    clear a_o b_o c_o
    have ha := hb
    replace K_c := Lib.hid (K_c.out.below ha K_c.out.lt)
    replace K_o := Lib.hid (K_o.out.below ha K_o.out.lt)
    replace BB := Lib.hid (below3 BB.out ha)
    clear ha hb
    go_wp2
    go_ret
    exact ⟨rfl, BB.out⟩

set_option maxRecDepth 100000 in
set_option maxHeartbeats 8000000 in
theorem ltells_small (A B D A2 B2 D2 : Option Addr) (n a m b k d n2 a2 m2 b2 k2 d2 : Nat) (next head tail next2 head2 tail2 : List Int) (nodes lists list node : Int) (w : World) (hn : n ≤ 9223372036854775807) (hm : m ≤ 9223372036854775807) (hk : k ≤ 9223372036854775807) (hn2 : n2 ≤ 9223372036854775807) (hm2 : m2 ≤ 9223372036854775807) (hk2 : k2 ≤ 9223372036854775807) (h1 : fewB n m k = true) (h2 : fewB n2 m2 k2 = true) (h3 : ¬ 300 < nodes) (hp : Chn w A n B m D k next head tail) (hq : Chn w A2 n2 B2 m2 D2 k2 next2 head2 tail2) :
    Calls Try.prog 4 #[.int .i64 nodes, .int .i64 lists, .agg #[.slice A n a, .slice B m b, .slice D k d], .agg #[.slice A2 n2 a2, .slice B2 m2 b2, .slice D2 k2 d2], .int .i64 list, .int .i64 node] w (TrueAns w) := by
  have k0 := (Bk.new w 24 #[.slice A n a, .slice B m b, .slice D k d]).alloc (.cells #[.slice A2 n2 a2, .slice B2 m2 b2, .slice D2 k2 d2] 24)
  have k1 := Bk.new (w.alloc (.cells #[.slice A n a, .slice B m b, .slice D k d] 24)) 24 #[.slice A2 n2 a2, .slice B2 m2 b2, .slice D2 k2 d2]
  rw [size_alloc] at k1
  have hb0 := ((Below.refl w.heap.size w).alloc (Nat.le_refl _) (.cells #[.slice A n a, .slice B m b, .slice D k d] 24)).alloc (by simp) (.cells #[.slice A2 n2 a2, .slice B2 m2 b2, .slice D2 k2 d2] 24)
  have K_c := Lib.hid k0
  have K_o := Lib.hid k1
  have BB := Lib.hid hb0
  have P_c := Lib.hid (hp.below hb0)
  have P_o := Lib.hid (hq.below hb0)
  have HF1 := Lib.hid h1
  have HF2 := Lib.hid h2
  obtain ⟨N, H, T, eN, n1, n2'⟩ := new_both nodes lists
  obtain ⟨zs, eW, c1, c2⟩ := walk_both next head tail list
  obtain ⟨z, eX, d1, d2'⟩ := where_both next head tail node
  obtain ⟨er, y, hy, m1, m2'⟩ := may_both next head tail
  have CN := Lib.hid (And.intro n1 n2')
  have CW := Lib.hid (And.intro c1 c2)
  have CX := Lib.hid (And.intro d1 d2')
  have CM := Lib.hid (And.intro m1 m2')
  have HY := Lib.hid hy
  obtain ⟨s, hs⟩ : ∃ s, sameC next next2 head head2 tail tail2 = s := ⟨_, rfl⟩
  have HS := Lib.hid hs
  clear k0 k1 hb0 hp hq h1 h2 n1 n2' c1 c2 d1 d2' m1 m2' hy hs
  go_enter Try.func4, Try.ntmps4
  go_wp2_with fail
  refine (live_any _).mono ?_
  rintro e w1 ⟨rfl, hb⟩
  have ha := hb
  replace K_c := Lib.hid (K_c.out.below ha K_c.out.lt)
  replace K_o := Lib.hid (K_o.out.below ha K_o.out.lt)
  replace P_c := Lib.hid (P_c.out.below ha)
  replace P_o := Lib.hid (P_o.out.below ha)
  replace BB := Lib.hid (below3 BB.out ha)
  clear ha hb
  have a_c := K_c.out.e0
  have b_c := K_c.out.e1
  have c_c := K_c.out.e2
  go_wp2_with fail
  refine (few_any A B D n a m b k d _ hn hm hk).mono ?_
  rw [HF1.out]
  rintro e w2 ⟨rfl, hb⟩
  clear a_c b_c c_c
  have ha := hb
  replace K_c := Lib.hid (K_c.out.below ha K_c.out.lt)
  replace K_o := Lib.hid (K_o.out.below ha K_o.out.lt)
  replace P_c := Lib.hid (P_c.out.below ha)
  replace P_o := Lib.hid (P_o.out.below ha)
  replace BB := Lib.hid (below3 BB.out ha)
  clear ha hb
  have a_o := K_o.out.e0
  have b_o := K_o.out.e1
  have c_o := K_o.out.e2
  go_wp2_with fail
  refine (few_any A2 B2 D2 n2 a2 m2 b2 k2 d2 _ hn2 hm2 hk2).mono ?_
  rw [HF2.out]
  rintro e w3 ⟨rfl, hb⟩
  clear a_o b_o c_o
  have ha := hb
  replace K_c := Lib.hid (K_c.out.below ha K_c.out.lt)
  replace K_o := Lib.hid (K_o.out.below ha K_o.out.lt)
  replace P_c := Lib.hid (P_c.out.below ha)
  replace P_o := Lib.hid (P_o.out.below ha)
  replace BB := Lib.hid (below3 BB.out ha)
  clear ha hb
  go_wp2_with fail
  refine (CN.out.1 _).mono ?_
  rintro e w4 ⟨Ap, ap, Bp, bp, Dp, dp, rfl, ho, hb⟩
  have ha := hb.alloc hb.size (.cells #[.slice Ap N.length ap, .slice Bp H.length bp, .slice Dp T.length dp] 24)
  have han := (Below.refl w4.heap.size w4).alloc (Nat.le_refl _) (.cells #[.slice Ap N.length ap, .slice Bp H.length bp, .slice Dp T.length dp] 24)
  replace K_c := Lib.hid (K_c.out.below ha K_c.out.lt)
  replace K_o := Lib.hid (K_o.out.below ha K_o.out.lt)
  replace P_c := Lib.hid (P_c.out.below ha)
  replace P_o := Lib.hid (P_o.out.below ha)
  replace BB := Lib.hid (below3 BB.out ha)
  have P_a := Lib.hid ((ho.c.chn).below han)
  have K_a := Lib.hid (Bk.new w4 24 #[.slice Ap N.length ap, .slice Bp H.length bp, .slice Dp T.length dp])
  clear ha hb han ho
  go_wp2_with fail
  refine (CN.out.2 _).mono ?_
  rintro e w5 ⟨Aq, aq, Bq, bq, Dq, dq, rfl, ho, hb⟩
  have ha := hb.alloc hb.size (.cells #[.slice Aq N.length aq, .slice Bq H.length bq, .slice Dq T.length dq] 24)
  have han := (Below.refl w5.heap.size w5).alloc (Nat.le_refl _) (.cells #[.slice Aq N.length aq, .slice Bq H.length bq, .slice Dq T.length dq] 24)
  replace K_c := Lib.hid (K_c.out.below ha K_c.out.lt)
  replace K_o := Lib.hid (K_o.out.below ha K_o.out.lt)
  replace K_a := Lib.hid (K_a.out.below ha K_a.out.lt)
  replace P_c := Lib.hid (P_c.out.below ha)
  replace P_o := Lib.hid (P_o.out.below ha)
  replace P_a := Lib.hid (P_a.out.below ha)
  replace BB := Lib.hid (below3 BB.out ha)
  have P_b := Lib.hid ((ho.chn).below han)
  have K_b := Lib.hid (Bk.new w5 24 #[.slice Aq N.length aq, .slice Bq H.length bq, .slice Dq T.length dq])
  clear ha hb han ho
  have a_c := K_c.out.e0
  have b_c := K_c.out.e1
  have c_c := K_c.out.e2
  go_wp2_with fail
  refine (CW.out.1 A B D n a m b k d _ P_c.out).mono ?_
  rintro e w6 ⟨Ax, ax, rfl, ho, hb⟩
  clear a_c b_c c_c
  have ha := hb
  replace K_c := Lib.hid (K_c.out.below ha K_c.out.lt)
  replace K_o := Lib.hid (K_o.out.below ha K_o.out.lt)
  replace K_a := Lib.hid (K_a.out.below ha K_a.out.lt)
  replace K_b := Lib.hid (K_b.out.below ha K_b.out.lt)
  replace P_c := Lib.hid (P_c.out.below ha)
  replace P_o := Lib.hid (P_o.out.below ha)
  replace P_a := Lib.hid (P_a.out.below ha)
  replace P_b := Lib.hid (P_b.out.below ha)
  replace BB := Lib.hid (below3 BB.out ha)
  have I_x := Lib.hid (ho.ints)
  clear ha hb ho
  have a_c := K_c.out.e0
  have b_c := K_c.out.e1
  have c_c := K_c.out.e2
  go_wp2_with fail
  refine (CW.out.2 A B D n a m b k d _ P_c.out).mono ?_
  rintro e w7 ⟨Ay, ay, rfl, ho, hb⟩
  clear a_c b_c c_c
  have ha := hb
  replace K_c := Lib.hid (K_c.out.below ha K_c.out.lt)
  replace K_o := Lib.hid (K_o.out.below ha K_o.out.lt)
  replace K_a := Lib.hid (K_a.out.below ha K_a.out.lt)
  replace K_b := Lib.hid (K_b.out.below ha K_b.out.lt)
  replace P_c := Lib.hid (P_c.out.below ha)
  replace P_o := Lib.hid (P_o.out.below ha)
  replace P_a := Lib.hid (P_a.out.below ha)
  replace P_b := Lib.hid (P_b.out.below ha)
  replace I_x := Lib.hid (I_x.out.below ha)
  replace BB := Lib.hid (below3 BB.out ha)
  have I_y := Lib.hid (ho.ints)
  clear ha hb ho
  have a_c := K_c.out.e0
  have b_c := K_c.out.e1
  have c_c := K_c.out.e2
  go_wp2_with fail
  refine (CX.out.1 A B D n a m b k d _ P_c.out).mono ?_
  rintro e w8 ⟨rfl, hb⟩
  clear a_c b_c c_c
  have ha := hb
  replace K_c := Lib.hid (K_c.out.below ha K_c.out.lt)
  replace K_o := Lib.hid (K_o.out.below ha K_o.out.lt)
  replace K_a := Lib.hid (K_a.out.below ha K_a.out.lt)
  replace K_b := Lib.hid (K_b.out.below ha K_b.out.lt)
  replace P_c := Lib.hid (P_c.out.below ha)
  replace P_o := Lib.hid (P_o.out.below ha)
  replace P_a := Lib.hid (P_a.out.below ha)
  replace P_b := Lib.hid (P_b.out.below ha)
  replace I_x := Lib.hid (I_x.out.below ha)
  replace I_y := Lib.hid (I_y.out.below ha)
  replace BB := Lib.hid (below3 BB.out ha)
  clear ha hb
  have a_c := K_c.out.e0
  have b_c := K_c.out.e1
  have c_c := K_c.out.e2
  go_wp2_with fail
  refine (CX.out.2 A B D n a m b k d _ P_c.out).mono ?_
  rintro e w9 ⟨rfl, hb⟩
  clear a_c b_c c_c
  have ha := hb
  replace K_c := Lib.hid (K_c.out.below ha K_c.out.lt)
  replace K_o := Lib.hid (K_o.out.below ha K_o.out.lt)
  replace K_a := Lib.hid (K_a.out.below ha K_a.out.lt)
  replace K_b := Lib.hid (K_b.out.below ha K_b.out.lt)
  replace P_c := Lib.hid (P_c.out.below ha)
  replace P_o := Lib.hid (P_o.out.below ha)
  replace P_a := Lib.hid (P_a.out.below ha)
  replace P_b := Lib.hid (P_b.out.below ha)
  replace I_x := Lib.hid (I_x.out.below ha)
  replace I_y := Lib.hid (I_y.out.below ha)
  replace BB := Lib.hid (below3 BB.out ha)
  clear ha hb
  have a_c := K_c.out.e0
  have b_c := K_c.out.e1
  have c_c := K_c.out.e2
  go_wp2_with fail
  refine (CM.out.2 A B D n a m b k d _ P_c.out).mono ?_
  rintro e w10 ⟨Hl, il, Cl, rfl, hb⟩
  clear a_c b_c c_c
  have ha := hb
  replace K_c := Lib.hid (K_c.out.below ha K_c.out.lt)
  replace K_o := Lib.hid (K_o.out.below ha K_o.out.lt)
  replace K_a := Lib.hid (K_a.out.below ha K_a.out.lt)
  replace K_b := Lib.hid (K_b.out.below ha K_b.out.lt)
  replace P_c := Lib.hid (P_c.out.below ha)
  replace P_o := Lib.hid (P_o.out.below ha)
  replace P_a := Lib.hid (P_a.out.below ha)
  replace P_b := Lib.hid (P_b.out.below ha)
  replace I_x := Lib.hid (I_x.out.below ha)
  replace I_y := Lib.hid (I_y.out.below ha)
  replace BB := Lib.hid (below3 BB.out ha)
  clear ha hb
  go_wp2_with fail
  refine calm_region (S := fun U => Below w10.heap.size w10 U) (by kernel_rfl) (Below.refl _ _).drew ?_
  refine calm_to (i := 0) (t := 87) (v := .bool true) rfl rfl (by kernel_rfl) (by kernel_rfl) (by kernel_rfl) (fun _ _ _ h => h) (calm_move rfl (.tmp 13) (.inl rfl) rfl) ?_
  simp only [List.setIfInBounds_toArray, List.set_cons_zero, List.set_cons_succ]
  refine calm_to (i := 1) (t := 88) (v := .bool true) rfl rfl (by kernel_rfl) (by kernel_rfl) (by kernel_rfl) (fun _ _ _ h => h) (calm_move rfl (.tmp 87) (.inl rfl) rfl) ?_
  simp only [List.setIfInBounds_toArray, List.set_cons_zero, List.set_cons_succ]
  refine calm_to (i := 2) (t := 89) (v := .agg #[.slice Ap N.length ap, .slice Bp H.length bp, .slice Dp T.length dp]) rfl rfl (by kernel_rfl) (by kernel_rfl) (by kernel_rfl) (fun _ _ _ h => h) (calm_chn rfl (.tmp 14) rfl _ rfl (fun U hU => K_a.out.below hU K_a.out.lt)) ?_
  simp only [List.setIfInBounds_toArray, List.set_cons_zero, List.set_cons_succ]
  refine calm_to (i := 3) (t := 90) (v := .agg #[.slice Aq N.length aq, .slice Bq H.length bq, .slice Dq T.length dq]) rfl rfl (by kernel_rfl) (by kernel_rfl) (by kernel_rfl) (fun _ _ _ h => h) (calm_chn rfl (.tmp 16) rfl _ rfl (fun U hU => K_b.out.below hU K_b.out.lt)) ?_
  simp only [List.setIfInBounds_toArray, List.set_cons_zero, List.set_cons_succ]
  refine calm_to (i := 4) (t := 91) (v := .bool true) rfl rfl (by kernel_rfl) (by kernel_rfl) (by kernel_rfl) (fun _ _ _ h => h) (calm_call2 rfl 20 (.tmp 89) (.tmp 90) #[24, 24] rfl (enters_of Try.func20 (by kernel_rfl) rfl) (.agg #[.slice Ap N.length ap, .slice Bp H.length bp, .slice Dp T.length dp]) (.agg #[.slice Aq N.length aq, .slice Bq H.length bq, .slice Dq T.length dq]) rfl rfl (fun U hU => (rsame_yes Ap Bp Dp Aq Bq Dq N.length ap H.length bp T.length dp aq bq dq N H T U (P_a.out.below hU) (P_b.out.below hU)).mono fun _ _ hh => ⟨hh.1, hU.trans (hh.2.mono hU.size)⟩)) ?_
  simp only [List.setIfInBounds_toArray, List.set_cons_zero, List.set_cons_succ]
  refine calm_to (i := 5) (t := 92) (v := .bool true) rfl rfl (by kernel_rfl) (by kernel_rfl) (by kernel_rfl) (fun _ _ _ h => h) (calm_pick rfl (.tmp 88) (.tmp 91) (.const (.bool false)) rfl true rfl rfl) ?_
  simp only [List.setIfInBounds_toArray, List.set_cons_zero, List.set_cons_succ]
  refine calm_to (i := 6) (t := 93) (v := .bool true) rfl rfl (by kernel_rfl) (by kernel_rfl) (by kernel_rfl) (fun _ _ _ h => h) (calm_move rfl (.tmp 92) (.inl rfl) rfl) ?_
  simp only [List.setIfInBounds_toArray, List.set_cons_zero, List.set_cons_succ]
  refine calm_to (i := 7) (t := 94) (v := .int .i64 eN) rfl rfl (by kernel_rfl) (by kernel_rfl) (by kernel_rfl) (fun _ _ _ h => h) (calm_move rfl (.tmp 15) (.inl rfl) rfl) ?_
  simp only [List.setIfInBounds_toArray, List.set_cons_zero, List.set_cons_succ]
  refine calm_to (i := 8) (t := 95) (v := .int .i64 eN) rfl rfl (by kernel_rfl) (by kernel_rfl) (by kernel_rfl) (fun _ _ _ h => h) (calm_move rfl (.tmp 17) (.inl rfl) rfl) ?_
  simp only [List.setIfInBounds_toArray, List.set_cons_zero, List.set_cons_succ]
  refine calm_to (i := 9) (t := 96) (v := .bool true) rfl rfl (by kernel_rfl) (by kernel_rfl) (by kernel_rfl) (fun _ _ _ h => h) (calm_of rfl (fun U _ => by go_simp)) ?_
  simp only [List.setIfInBounds_toArray, List.set_cons_zero, List.set_cons_succ]
  refine calm_to (i := 10) (t := 97) (v := .bool true) rfl rfl (by kernel_rfl) (by kernel_rfl) (by kernel_rfl) (fun _ _ _ h => h) (calm_pick rfl (.tmp 93) (.tmp 96) (.const (.bool false)) rfl true rfl rfl) ?_
  simp only [List.setIfInBounds_toArray, List.set_cons_zero, List.set_cons_succ]
  refine calm_to (i := 11) (t := 98) (v := .bool true) rfl rfl (by kernel_rfl) (by kernel_rfl) (by kernel_rfl) (fun _ _ _ h => h) (calm_move rfl (.tmp 97) (.inl rfl) rfl) ?_
  simp only [List.setIfInBounds_toArray, List.set_cons_zero, List.set_cons_succ]
  refine calm_to (i := 12) (t := 99) (v := .slice Ax zs.length ax) rfl rfl (by kernel_rfl) (by kernel_rfl) (by kernel_rfl) (fun _ _ _ h => h) (calm_move rfl (.tmp 18) (.inl rfl) rfl) ?_
  simp only [List.setIfInBounds_toArray, List.set_cons_zero, List.set_cons_succ]
  refine calm_to (i := 13) (t := 100) (v := .slice Ay zs.length ay) rfl rfl (by kernel_rfl) (by kernel_rfl) (by kernel_rfl) (fun _ _ _ h => h) (calm_move rfl (.tmp 20) (.inl rfl) rfl) ?_
  simp only [List.setIfInBounds_toArray, List.set_cons_zero, List.set_cons_succ]
  refine calm_to (i := 14) (t := 101) (v := .bool true) rfl rfl (by kernel_rfl) (by kernel_rfl) (by kernel_rfl) (fun _ _ _ h => h) (calm_call2 rfl 28 (.tmp 99) (.tmp 100) #[22, 22] rfl (enters_of Try.func28 (by kernel_rfl) rfl) (.slice Ax zs.length ax) (.slice Ay zs.length ay) rfl rfl (fun U hU => (rsameInts_yes Ax Ay zs.length ax ay zs U (I_x.out.below hU) (I_y.out.below hU)).mono fun _ _ hh => ⟨hh.1, hU.trans (hh.2.mono hU.size)⟩)) ?_
  simp only [List.setIfInBounds_toArray, List.set_cons_zero, List.set_cons_succ]
  refine calm_to (i := 15) (t := 102) (v := .bool true) rfl rfl (by kernel_rfl) (by kernel_rfl) (by kernel_rfl) (fun _ _ _ h => h) (calm_pick rfl (.tmp 98) (.tmp 101) (.const (.bool false)) rfl true rfl rfl) ?_
  simp only [List.setIfInBounds_toArray, List.set_cons_zero, List.set_cons_succ]
  refine calm_to (i := 16) (t := 103) (v := .bool true) rfl rfl (by kernel_rfl) (by kernel_rfl) (by kernel_rfl) (fun _ _ _ h => h) (calm_move rfl (.tmp 102) (.inl rfl) rfl) ?_
  simp only [List.setIfInBounds_toArray, List.set_cons_zero, List.set_cons_succ]
  refine calm_to (i := 17) (t := 104) (v := .int .i64 eW) rfl rfl (by kernel_rfl) (by kernel_rfl) (by kernel_rfl) (fun _ _ _ h => h) (calm_move rfl (.tmp 19) (.inl rfl) rfl) ?_
  simp only [List.setIfInBounds_toArray, List.set_cons_zero, List.set_cons_succ]
  refine calm_to (i := 18) (t := 105) (v := .int .i64 eW) rfl rfl (by kernel_rfl) (by kernel_rfl) (by kernel_rfl) (fun _ _ _ h => h) (calm_move rfl (.tmp 21) (.inl rfl) rfl) ?_
  simp only [List.setIfInBounds_toArray, List.set_cons_zero, List.set_cons_succ]
  refine calm_to (i := 19) (t := 106) (v := .bool true) rfl rfl (by kernel_rfl) (by kernel_rfl) (by kernel_rfl) (fun _ _ _ h => h) (calm_of rfl (fun U _ => by go_simp)) ?_
  simp only [List.setIfInBounds_toArray, List.set_cons_zero, List.set_cons_succ]
  refine calm_to (i := 20) (t := 107) (v := .bool true) rfl rfl (by kernel_rfl) (by kernel_rfl) (by kernel_rfl) (fun _ _ _ h => h) (calm_pick rfl (.tmp 103) (.tmp 106) (.const (.bool false)) rfl true rfl rfl) ?_
  simp only [List.setIfInBounds_toArray, List.set_cons_zero, List.set_cons_succ]
  refine calm_to (i := 21) (t := 108) (v := .bool true) rfl rfl (by kernel_rfl) (by kernel_rfl) (by kernel_rfl) (fun _ _ _ h => h) (calm_move rfl (.tmp 107) (.inl rfl) rfl) ?_
  simp only [List.setIfInBounds_toArray, List.set_cons_zero, List.set_cons_succ]
  refine calm_to (i := 22) (t := 109) (v := .int .i64 z) rfl rfl (by kernel_rfl) (by kernel_rfl) (by kernel_rfl) (fun _ _ _ h => h) (calm_move rfl (.tmp 22) (.inl rfl) rfl) ?_
  simp only [List.setIfInBounds_toArray, List.set_cons_zero, List.set_cons_succ]
  refine calm_to (i := 23) (t := 110) (v := .int .i64 z) rfl rfl (by kernel_rfl) (by kernel_rfl) (by kernel_rfl) (fun _ _ _ h => h) (calm_move rfl (.tmp 24) (.inl rfl) rfl) ?_
  simp only [List.setIfInBounds_toArray, List.set_cons_zero, List.set_cons_succ]
  refine calm_to (i := 24) (t := 111) (v := .bool true) rfl rfl (by kernel_rfl) (by kernel_rfl) (by kernel_rfl) (fun _ _ _ h => h) (calm_of rfl (fun U _ => by go_simp)) ?_
  simp only [List.setIfInBounds_toArray, List.set_cons_zero, List.set_cons_succ]
  refine calm_to (i := 25) (t := 112) (v := .bool true) rfl rfl (by kernel_rfl) (by kernel_rfl) (by kernel_rfl) (fun _ _ _ h => h) (calm_pick rfl (.tmp 108) (.tmp 111) (.const (.bool false)) rfl true rfl rfl) ?_
  simp only [List.setIfInBounds_toArray, List.set_cons_zero, List.set_cons_succ]
  refine calm_to (i := 26) (t := 113) (v := .bool true) rfl rfl (by kernel_rfl) (by kernel_rfl) (by kernel_rfl) (fun _ _ _ h => h) (calm_move rfl (.tmp 112) (.inl rfl) rfl) ?_
  simp only [List.setIfInBounds_toArray, List.set_cons_zero, List.set_cons_succ]
  refine calm_to (i := 27) (t := 114) (v := .int .i64 eX) rfl rfl (by kernel_rfl) (by kernel_rfl) (by kernel_rfl) (fun _ _ _ h => h) (calm_move rfl (.tmp 23) (.inl rfl) rfl) ?_
  simp only [List.setIfInBounds_toArray, List.set_cons_zero, List.set_cons_succ]
  refine calm_to (i := 28) (t := 115) (v := .int .i64 eX) rfl rfl (by kernel_rfl) (by kernel_rfl) (by kernel_rfl) (fun _ _ _ h => h) (calm_move rfl (.tmp 25) (.inl rfl) rfl) ?_
  simp only [List.setIfInBounds_toArray, List.set_cons_zero, List.set_cons_succ]
  refine calm_to (i := 29) (t := 116) (v := .bool true) rfl rfl (by kernel_rfl) (by kernel_rfl) (by kernel_rfl) (fun _ _ _ h => h) (calm_of rfl (fun U _ => by go_simp)) ?_
  simp only [List.setIfInBounds_toArray, List.set_cons_zero, List.set_cons_succ]
  refine calm_to (i := 30) (t := 117) (v := .bool true) rfl rfl (by kernel_rfl) (by kernel_rfl) (by kernel_rfl) (fun _ _ _ h => h) (calm_pick rfl (.tmp 113) (.tmp 116) (.const (.bool false)) rfl true rfl rfl) ?_
  simp only [List.setIfInBounds_toArray, List.set_cons_zero, List.set_cons_succ]
  refine calm_to (i := 31) (t := 118) (v := .bool true) rfl rfl (by kernel_rfl) (by kernel_rfl) (by kernel_rfl) (fun _ _ _ h => h) (calm_move rfl (.tmp 117) (.inl rfl) rfl) ?_
  simp only [List.setIfInBounds_toArray, List.set_cons_zero, List.set_cons_succ]
  refine calm_to (i := 32) (t := 119) (v := .agg #[.slice A n a, .slice B m b, .slice D k d]) rfl rfl (by kernel_rfl) (by kernel_rfl) (by kernel_rfl) (fun _ _ _ h => h) (calm_chn rfl (.tmp 8) rfl _ rfl (fun U hU => K_c.out.below hU K_c.out.lt)) ?_
  simp only [List.setIfInBounds_toArray, List.set_cons_zero, List.set_cons_succ]
  refine calm_to (i := 33) (t := 120) (v := .int .i64 er) rfl rfl (by kernel_rfl) (by kernel_rfl) (by kernel_rfl) (fun _ _ _ h => h) (calm_call1 rfl 29 (.tmp 119) #[24] rfl (enters_of Try.func29 (by kernel_rfl) rfl) (.agg #[.slice A n a, .slice B m b, .slice D k d]) rfl (fun U hU => (CM.out.1 A B D n a m b k d U (P_c.out.below hU)).mono fun _ _ hh => ⟨hh.1, hU.trans (hh.2.mono hU.size)⟩)) ?_
  simp only [List.setIfInBounds_toArray, List.set_cons_zero, List.set_cons_succ]
  refine calm_to (i := 34) (t := 121) (v := .bool y) rfl rfl (by kernel_rfl) (by kernel_rfl) (by kernel_rfl) (fun _ _ _ h => h) (calm_of rfl (fun U _ => by have h := HY.out; go_simp)) ?_
  simp only [List.setIfInBounds_toArray, List.set_cons_zero, List.set_cons_succ]
  refine calm_to (i := 35) (t := 122) (v := .bool y) rfl rfl (by kernel_rfl) (by kernel_rfl) (by kernel_rfl) (fun _ _ _ h => h) (calm_move rfl (.tmp 27) (.inl rfl) rfl) ?_
  simp only [List.setIfInBounds_toArray, List.set_cons_zero, List.set_cons_succ]
  refine calm_to (i := 36) (t := 123) (v := .bool true) rfl rfl (by kernel_rfl) (by kernel_rfl) (by kernel_rfl) (fun _ _ _ h => h) (calm_of rfl (fun U _ => by go_simp)) ?_
  simp only [List.setIfInBounds_toArray, List.set_cons_zero, List.set_cons_succ]
  refine calm_to (i := 37) (t := 124) (v := .bool true) rfl rfl (by kernel_rfl) (by kernel_rfl) (by kernel_rfl) (fun _ _ _ h => h) (calm_pick rfl (.tmp 118) (.tmp 123) (.const (.bool false)) rfl true rfl rfl) ?_
  simp only [List.setIfInBounds_toArray, List.set_cons_zero, List.set_cons_succ]
  refine calm_to (i := 38) (t := 125) (v := .bool true) rfl rfl (by kernel_rfl) (by kernel_rfl) (by kernel_rfl) (fun _ _ _ h => h) (calm_move rfl (.tmp 124) (.inl rfl) rfl) ?_
  simp only [List.setIfInBounds_toArray, List.set_cons_zero, List.set_cons_succ]
  refine calm_to (i := 39) (t := 126) (v := .agg #[.slice A n a, .slice B m b, .slice D k d]) rfl rfl (by kernel_rfl) (by kernel_rfl) (by kernel_rfl) (fun _ _ _ h => h) (calm_chn rfl (.tmp 8) rfl _ rfl (fun U hU => K_c.out.below hU K_c.out.lt)) ?_
  simp only [List.setIfInBounds_toArray, List.set_cons_zero, List.set_cons_succ]
  refine calm_to (i := 40) (t := 127) (v := .agg #[.slice A2 n2 a2, .slice B2 m2 b2, .slice D2 k2 d2]) rfl rfl (by kernel_rfl) (by kernel_rfl) (by kernel_rfl) (fun _ _ _ h => h) (calm_chn rfl (.tmp 9) rfl _ rfl (fun U hU => K_o.out.below hU K_o.out.lt)) ?_
  simp only [List.setIfInBounds_toArray, List.set_cons_zero, List.set_cons_succ]
  refine calm_to (i := 41) (t := 128) (v := .bool s) rfl rfl (by kernel_rfl) (by kernel_rfl) (by kernel_rfl) (fun _ _ _ h => h) (calm_call2 rfl 30 (.tmp 126) (.tmp 127) #[24, 24] rfl (enters_of Try.func30 (by kernel_rfl) rfl) (.agg #[.slice A n a, .slice B m b, .slice D k d]) (.agg #[.slice A2 n2 a2, .slice B2 m2 b2, .slice D2 k2 d2]) rfl rfl (fun U hU => (HS.out ▸ same_any A B D A2 B2 D2 n a m b k d n2 a2 m2 b2 k2 d2 next head tail next2 head2 tail2 U (P_c.out.below hU) (P_o.out.below hU)).mono fun _ _ hh => ⟨hh.1, hU.trans (hh.2.mono hU.size)⟩)) ?_
  simp only [List.setIfInBounds_toArray, List.set_cons_zero, List.set_cons_succ]
  refine calm_to (i := 42) (t := 129) (v := .agg #[.slice A n a, .slice B m b, .slice D k d]) rfl rfl (by kernel_rfl) (by kernel_rfl) (by kernel_rfl) (fun _ _ _ h => h) (calm_chn rfl (.tmp 8) rfl _ rfl (fun U hU => K_c.out.below hU K_c.out.lt)) ?_
  simp only [List.setIfInBounds_toArray, List.set_cons_zero, List.set_cons_succ]
  refine calm_to (i := 43) (t := 130) (v := .agg #[.slice A2 n2 a2, .slice B2 m2 b2, .slice D2 k2 d2]) rfl rfl (by kernel_rfl) (by kernel_rfl) (by kernel_rfl) (fun _ _ _ h => h) (calm_chn rfl (.tmp 9) rfl _ rfl (fun U hU => K_o.out.below hU K_o.out.lt)) ?_
  simp only [List.setIfInBounds_toArray, List.set_cons_zero, List.set_cons_succ]
  refine calm_to (i := 44) (t := 131) (v := .bool s) rfl rfl (by kernel_rfl) (by kernel_rfl) (by kernel_rfl) (fun _ _ _ h => h) (calm_call2 rfl 20 (.tmp 129) (.tmp 130) #[24, 24] rfl (enters_of Try.func20 (by kernel_rfl) rfl) (.agg #[.slice A n a, .slice B m b, .slice D k d]) (.agg #[.slice A2 n2 a2, .slice B2 m2 b2, .slice D2 k2 d2]) rfl rfl (fun U hU => (HS.out ▸ rsame_any A B D A2 B2 D2 n a m b k d n2 a2 m2 b2 k2 d2 next head tail next2 head2 tail2 U (P_c.out.below hU) (P_o.out.below hU)).mono fun _ _ hh => ⟨hh.1, hU.trans (hh.2.mono hU.size)⟩)) ?_
  simp only [List.setIfInBounds_toArray, List.set_cons_zero, List.set_cons_succ]
  refine calm_to (i := 45) (t := 132) (v := .bool true) rfl rfl (by kernel_rfl) (by kernel_rfl) (by kernel_rfl) (fun _ _ _ h => h) (calm_of rfl (fun U _ => by go_simp)) ?_
  simp only [List.setIfInBounds_toArray, List.set_cons_zero, List.set_cons_succ]
  refine calm_to (i := 46) (t := 133) (v := .bool true) rfl rfl (by kernel_rfl) (by kernel_rfl) (by kernel_rfl) (fun _ _ _ h => h) (calm_pick rfl (.tmp 125) (.tmp 132) (.const (.bool false)) rfl true rfl rfl) ?_
  simp only [List.setIfInBounds_toArray, List.set_cons_zero, List.set_cons_succ]
  refine calm_to (i := 47) (t := 12) (v := .bool true) rfl rfl (by kernel_rfl) (by kernel_rfl) (by kernel_rfl) (fun _ _ _ h => h) (calm_move rfl (.tmp 133) (.inr rfl) rfl) ?_
  simp only [List.setIfInBounds_toArray, List.set_cons_zero, List.set_cons_succ]
  refine calm_done (by kernel_rfl) ?_ _
  intro U hU
  replace BB := Lib.hid (below3 BB.out hU)
  clear hU K_c K_o K_a K_b P_c P_o P_a P_b I_x I_y CN CW CX CM HY HS HF1 HF2
  go_wp2
  go_ret
  exact ⟨rfl, BB.out⟩

set_option maxRecDepth 100000 in
set_option maxHeartbeats 8000000 in
theorem ltells_big (A B D A2 B2 D2 : Option Addr) (n a m b k d n2 a2 m2 b2 k2 d2 : Nat) (next head tail next2 head2 tail2 : List Int) (nodes lists list node : Int) (w : World) (hn : n ≤ 9223372036854775807) (hm : m ≤ 9223372036854775807) (hk : k ≤ 9223372036854775807) (hn2 : n2 ≤ 9223372036854775807) (hm2 : m2 ≤ 9223372036854775807) (hk2 : k2 ≤ 9223372036854775807) (h1 : fewB n m k = true) (h2 : fewB n2 m2 k2 = true) (h3 : 300 < nodes) (h4 : ¬ nodes ≤ 1024) (hp : Chn w A n B m D k next head tail) (hq : Chn w A2 n2 B2 m2 D2 k2 next2 head2 tail2) :
    Calls Try.prog 4 #[.int .i64 nodes, .int .i64 lists, .agg #[.slice A n a, .slice B m b, .slice D k d], .agg #[.slice A2 n2 a2, .slice B2 m2 b2, .slice D2 k2 d2], .int .i64 list, .int .i64 node] w (TrueAns w) := by
  have k0 := (Bk.new w 24 #[.slice A n a, .slice B m b, .slice D k d]).alloc (.cells #[.slice A2 n2 a2, .slice B2 m2 b2, .slice D2 k2 d2] 24)
  have k1 := Bk.new (w.alloc (.cells #[.slice A n a, .slice B m b, .slice D k d] 24)) 24 #[.slice A2 n2 a2, .slice B2 m2 b2, .slice D2 k2 d2]
  rw [size_alloc] at k1
  have hb0 := ((Below.refl w.heap.size w).alloc (Nat.le_refl _) (.cells #[.slice A n a, .slice B m b, .slice D k d] 24)).alloc (by simp) (.cells #[.slice A2 n2 a2, .slice B2 m2 b2, .slice D2 k2 d2] 24)
  have K_c := Lib.hid k0
  have K_o := Lib.hid k1
  have BB := Lib.hid hb0
  have P_c := Lib.hid (hp.below hb0)
  have P_o := Lib.hid (hq.below hb0)
  have HF1 := Lib.hid h1
  have HF2 := Lib.hid h2
  obtain ⟨N, H, T, eN, n1, n2'⟩ := new_both nodes lists
  obtain ⟨zs, eW, c1, c2⟩ := walk_both next head tail list
  obtain ⟨z, eX, d1, d2'⟩ := where_both next head tail node
  obtain ⟨er, y, hy, m1, m2'⟩ := may_both next head tail
  have CN := Lib.hid (And.intro n1 n2')
  have CW := Lib.hid (And.intro c1 c2)
  have CX := Lib.hid (And.intro d1 d2')
  have CM := Lib.hid (And.intro m1 m2')
  have HY := Lib.hid hy
  obtain ⟨s, hs⟩ : ∃ s, sameC next next2 head head2 tail tail2 = s := ⟨_, rfl⟩
  have HS := Lib.hid hs
  clear k0 k1 hb0 hp hq h1 h2 n1 n2' c1 c2 d1 d2' m1 m2' hy hs
  go_enter Try.func4, Try.ntmps4
  go_wp2_with fail
  refine (live_any _).mono ?_
  rintro e w1 ⟨rfl, hb⟩
  have ha := hb
  replace K_c := Lib.hid (K_c.out.below ha K_c.out.lt)
  replace K_o := Lib.hid (K_o.out.below ha K_o.out.lt)
  replace P_c := Lib.hid (P_c.out.below ha)
  replace P_o := Lib.hid (P_o.out.below ha)
  replace BB := Lib.hid (below3 BB.out ha)
  clear ha hb
  have a_c := K_c.out.e0
  have b_c := K_c.out.e1
  have c_c := K_c.out.e2
  go_wp2_with fail
  refine (few_any A B D n a m b k d _ hn hm hk).mono ?_
  rw [HF1.out]
  rintro e w2 ⟨rfl, hb⟩
  clear a_c b_c c_c
  have ha := hb
  replace K_c := Lib.hid (K_c.out.below ha K_c.out.lt)
  replace K_o := Lib.hid (K_o.out.below ha K_o.out.lt)
  replace P_c := Lib.hid (P_c.out.below ha)
  replace P_o := Lib.hid (P_o.out.below ha)
  replace BB := Lib.hid (below3 BB.out ha)
  clear ha hb
  have a_o := K_o.out.e0
  have b_o := K_o.out.e1
  have c_o := K_o.out.e2
  go_wp2_with fail
  refine (few_any A2 B2 D2 n2 a2 m2 b2 k2 d2 _ hn2 hm2 hk2).mono ?_
  rw [HF2.out]
  rintro e w3 ⟨rfl, hb⟩
  clear a_o b_o c_o
  have ha := hb
  replace K_c := Lib.hid (K_c.out.below ha K_c.out.lt)
  replace K_o := Lib.hid (K_o.out.below ha K_o.out.lt)
  replace P_c := Lib.hid (P_c.out.below ha)
  replace P_o := Lib.hid (P_o.out.below ha)
  replace BB := Lib.hid (below3 BB.out ha)
  clear ha hb
  go_wp2_with fail
  refine (CN.out.1 _).mono ?_
  rintro e w4 ⟨Ap, ap, Bp, bp, Dp, dp, rfl, ho, hb⟩
  have ha := hb.alloc hb.size (.cells #[.slice Ap N.length ap, .slice Bp H.length bp, .slice Dp T.length dp] 24)
  have han := (Below.refl w4.heap.size w4).alloc (Nat.le_refl _) (.cells #[.slice Ap N.length ap, .slice Bp H.length bp, .slice Dp T.length dp] 24)
  replace K_c := Lib.hid (K_c.out.below ha K_c.out.lt)
  replace K_o := Lib.hid (K_o.out.below ha K_o.out.lt)
  replace P_c := Lib.hid (P_c.out.below ha)
  replace P_o := Lib.hid (P_o.out.below ha)
  replace BB := Lib.hid (below3 BB.out ha)
  have P_a := Lib.hid ((ho.c.chn).below han)
  have K_a := Lib.hid (Bk.new w4 24 #[.slice Ap N.length ap, .slice Bp H.length bp, .slice Dp T.length dp])
  clear ha hb han ho
  go_wp2_with fail
  refine (CN.out.2 _).mono ?_
  rintro e w5 ⟨Aq, aq, Bq, bq, Dq, dq, rfl, ho, hb⟩
  have ha := hb.alloc hb.size (.cells #[.slice Aq N.length aq, .slice Bq H.length bq, .slice Dq T.length dq] 24)
  have han := (Below.refl w5.heap.size w5).alloc (Nat.le_refl _) (.cells #[.slice Aq N.length aq, .slice Bq H.length bq, .slice Dq T.length dq] 24)
  replace K_c := Lib.hid (K_c.out.below ha K_c.out.lt)
  replace K_o := Lib.hid (K_o.out.below ha K_o.out.lt)
  replace K_a := Lib.hid (K_a.out.below ha K_a.out.lt)
  replace P_c := Lib.hid (P_c.out.below ha)
  replace P_o := Lib.hid (P_o.out.below ha)
  replace P_a := Lib.hid (P_a.out.below ha)
  replace BB := Lib.hid (below3 BB.out ha)
  have P_b := Lib.hid ((ho.chn).below han)
  have K_b := Lib.hid (Bk.new w5 24 #[.slice Aq N.length aq, .slice Bq H.length bq, .slice Dq T.length dq])
  clear ha hb han ho
  have a_c := K_c.out.e0
  have b_c := K_c.out.e1
  have c_c := K_c.out.e2
  go_wp2_with fail
  refine (CW.out.1 A B D n a m b k d _ P_c.out).mono ?_
  rintro e w6 ⟨Ax, ax, rfl, ho, hb⟩
  clear a_c b_c c_c
  have ha := hb
  replace K_c := Lib.hid (K_c.out.below ha K_c.out.lt)
  replace K_o := Lib.hid (K_o.out.below ha K_o.out.lt)
  replace K_a := Lib.hid (K_a.out.below ha K_a.out.lt)
  replace K_b := Lib.hid (K_b.out.below ha K_b.out.lt)
  replace P_c := Lib.hid (P_c.out.below ha)
  replace P_o := Lib.hid (P_o.out.below ha)
  replace P_a := Lib.hid (P_a.out.below ha)
  replace P_b := Lib.hid (P_b.out.below ha)
  replace BB := Lib.hid (below3 BB.out ha)
  have I_x := Lib.hid (ho.ints)
  clear ha hb ho
  have a_c := K_c.out.e0
  have b_c := K_c.out.e1
  have c_c := K_c.out.e2
  go_wp2_with fail
  refine (CW.out.2 A B D n a m b k d _ P_c.out).mono ?_
  rintro e w7 ⟨Ay, ay, rfl, ho, hb⟩
  clear a_c b_c c_c
  have ha := hb
  replace K_c := Lib.hid (K_c.out.below ha K_c.out.lt)
  replace K_o := Lib.hid (K_o.out.below ha K_o.out.lt)
  replace K_a := Lib.hid (K_a.out.below ha K_a.out.lt)
  replace K_b := Lib.hid (K_b.out.below ha K_b.out.lt)
  replace P_c := Lib.hid (P_c.out.below ha)
  replace P_o := Lib.hid (P_o.out.below ha)
  replace P_a := Lib.hid (P_a.out.below ha)
  replace P_b := Lib.hid (P_b.out.below ha)
  replace I_x := Lib.hid (I_x.out.below ha)
  replace BB := Lib.hid (below3 BB.out ha)
  have I_y := Lib.hid (ho.ints)
  clear ha hb ho
  have a_c := K_c.out.e0
  have b_c := K_c.out.e1
  have c_c := K_c.out.e2
  go_wp2_with fail
  refine (CX.out.1 A B D n a m b k d _ P_c.out).mono ?_
  rintro e w8 ⟨rfl, hb⟩
  clear a_c b_c c_c
  have ha := hb
  replace K_c := Lib.hid (K_c.out.below ha K_c.out.lt)
  replace K_o := Lib.hid (K_o.out.below ha K_o.out.lt)
  replace K_a := Lib.hid (K_a.out.below ha K_a.out.lt)
  replace K_b := Lib.hid (K_b.out.below ha K_b.out.lt)
  replace P_c := Lib.hid (P_c.out.below ha)
  replace P_o := Lib.hid (P_o.out.below ha)
  replace P_a := Lib.hid (P_a.out.below ha)
  replace P_b := Lib.hid (P_b.out.below ha)
  replace I_x := Lib.hid (I_x.out.below ha)
  replace I_y := Lib.hid (I_y.out.below ha)
  replace BB := Lib.hid (below3 BB.out ha)
  clear ha hb
  have a_c := K_c.out.e0
  have b_c := K_c.out.e1
  have c_c := K_c.out.e2
  go_wp2_with fail
  refine (CX.out.2 A B D n a m b k d _ P_c.out).mono ?_
  rintro e w9 ⟨rfl, hb⟩
  clear a_c b_c c_c
  have ha := hb
  replace K_c := Lib.hid (K_c.out.below ha K_c.out.lt)
  replace K_o := Lib.hid (K_o.out.below ha K_o.out.lt)
  replace K_a := Lib.hid (K_a.out.below ha K_a.out.lt)
  replace K_b := Lib.hid (K_b.out.below ha K_b.out.lt)
  replace P_c := Lib.hid (P_c.out.below ha)
  replace P_o := Lib.hid (P_o.out.below ha)
  replace P_a := Lib.hid (P_a.out.below ha)
  replace P_b := Lib.hid (P_b.out.below ha)
  replace I_x := Lib.hid (I_x.out.below ha)
  replace I_y := Lib.hid (I_y.out.below ha)
  replace BB := Lib.hid (below3 BB.out ha)
  clear ha hb
  have a_c := K_c.out.e0
  have b_c := K_c.out.e1
  have c_c := K_c.out.e2
  go_wp2_with fail
  refine (CM.out.2 A B D n a m b k d _ P_c.out).mono ?_
  rintro e w10 ⟨Hl, il, Cl, rfl, hb⟩
  clear a_c b_c c_c
  have ha := hb
  replace K_c := Lib.hid (K_c.out.below ha K_c.out.lt)
  replace K_o := Lib.hid (K_o.out.below ha K_o.out.lt)
  replace K_a := Lib.hid (K_a.out.below ha K_a.out.lt)
  replace K_b := Lib.hid (K_b.out.below ha K_b.out.lt)
  replace P_c := Lib.hid (P_c.out.below ha)
  replace P_o := Lib.hid (P_o.out.below ha)
  replace P_a := Lib.hid (P_a.out.below ha)
  replace P_b := Lib.hid (P_b.out.below ha)
  replace I_x := Lib.hid (I_x.out.below ha)
  replace I_y := Lib.hid (I_y.out.below ha)
  replace BB := Lib.hid (below3 BB.out ha)
  clear ha hb
  go_wp2_with fail
  refine calm_region (S := fun U => Below w10.heap.size w10 U) (by kernel_rfl) (Below.refl _ _).drew ?_
  refine calm_to (i := 0) (t := 87) (v := .bool true) rfl rfl (by kernel_rfl) (by kernel_rfl) (by kernel_rfl) (fun _ _ _ h => h) (calm_move rfl (.tmp 13) (.inl rfl) rfl) ?_
  simp only [List.setIfInBounds_toArray, List.set_cons_zero, List.set_cons_succ]
  refine calm_to (i := 1) (t := 88) (v := .bool true) rfl rfl (by kernel_rfl) (by kernel_rfl) (by kernel_rfl) (fun _ _ _ h => h) (calm_move rfl (.tmp 87) (.inl rfl) rfl) ?_
  simp only [List.setIfInBounds_toArray, List.set_cons_zero, List.set_cons_succ]
  refine calm_to (i := 2) (t := 89) (v := .agg #[.slice Ap N.length ap, .slice Bp H.length bp, .slice Dp T.length dp]) rfl rfl (by kernel_rfl) (by kernel_rfl) (by kernel_rfl) (fun _ _ _ h => h) (calm_chn rfl (.tmp 14) rfl _ rfl (fun U hU => K_a.out.below hU K_a.out.lt)) ?_
  simp only [List.setIfInBounds_toArray, List.set_cons_zero, List.set_cons_succ]
  refine calm_to (i := 3) (t := 90) (v := .agg #[.slice Aq N.length aq, .slice Bq H.length bq, .slice Dq T.length dq]) rfl rfl (by kernel_rfl) (by kernel_rfl) (by kernel_rfl) (fun _ _ _ h => h) (calm_chn rfl (.tmp 16) rfl _ rfl (fun U hU => K_b.out.below hU K_b.out.lt)) ?_
  simp only [List.setIfInBounds_toArray, List.set_cons_zero, List.set_cons_succ]
  refine calm_to (i := 4) (t := 91) (v := .bool true) rfl rfl (by kernel_rfl) (by kernel_rfl) (by kernel_rfl) (fun _ _ _ h => h) (calm_call2 rfl 20 (.tmp 89) (.tmp 90) #[24, 24] rfl (enters_of Try.func20 (by kernel_rfl) rfl) (.agg #[.slice Ap N.length ap, .slice Bp H.length bp, .slice Dp T.length dp]) (.agg #[.slice Aq N.length aq, .slice Bq H.length bq, .slice Dq T.length dq]) rfl rfl (fun U hU => (rsame_yes Ap Bp Dp Aq Bq Dq N.length ap H.length bp T.length dp aq bq dq N H T U (P_a.out.below hU) (P_b.out.below hU)).mono fun _ _ hh => ⟨hh.1, hU.trans (hh.2.mono hU.size)⟩)) ?_
  simp only [List.setIfInBounds_toArray, List.set_cons_zero, List.set_cons_succ]
  refine calm_to (i := 5) (t := 92) (v := .bool true) rfl rfl (by kernel_rfl) (by kernel_rfl) (by kernel_rfl) (fun _ _ _ h => h) (calm_pick rfl (.tmp 88) (.tmp 91) (.const (.bool false)) rfl true rfl rfl) ?_
  simp only [List.setIfInBounds_toArray, List.set_cons_zero, List.set_cons_succ]
  refine calm_to (i := 6) (t := 93) (v := .bool true) rfl rfl (by kernel_rfl) (by kernel_rfl) (by kernel_rfl) (fun _ _ _ h => h) (calm_move rfl (.tmp 92) (.inl rfl) rfl) ?_
  simp only [List.setIfInBounds_toArray, List.set_cons_zero, List.set_cons_succ]
  refine calm_to (i := 7) (t := 94) (v := .int .i64 eN) rfl rfl (by kernel_rfl) (by kernel_rfl) (by kernel_rfl) (fun _ _ _ h => h) (calm_move rfl (.tmp 15) (.inl rfl) rfl) ?_
  simp only [List.setIfInBounds_toArray, List.set_cons_zero, List.set_cons_succ]
  refine calm_to (i := 8) (t := 95) (v := .int .i64 eN) rfl rfl (by kernel_rfl) (by kernel_rfl) (by kernel_rfl) (fun _ _ _ h => h) (calm_move rfl (.tmp 17) (.inl rfl) rfl) ?_
  simp only [List.setIfInBounds_toArray, List.set_cons_zero, List.set_cons_succ]
  refine calm_to (i := 9) (t := 96) (v := .bool true) rfl rfl (by kernel_rfl) (by kernel_rfl) (by kernel_rfl) (fun _ _ _ h => h) (calm_of rfl (fun U _ => by go_simp)) ?_
  simp only [List.setIfInBounds_toArray, List.set_cons_zero, List.set_cons_succ]
  refine calm_to (i := 10) (t := 97) (v := .bool true) rfl rfl (by kernel_rfl) (by kernel_rfl) (by kernel_rfl) (fun _ _ _ h => h) (calm_pick rfl (.tmp 93) (.tmp 96) (.const (.bool false)) rfl true rfl rfl) ?_
  simp only [List.setIfInBounds_toArray, List.set_cons_zero, List.set_cons_succ]
  refine calm_to (i := 11) (t := 98) (v := .bool true) rfl rfl (by kernel_rfl) (by kernel_rfl) (by kernel_rfl) (fun _ _ _ h => h) (calm_move rfl (.tmp 97) (.inl rfl) rfl) ?_
  simp only [List.setIfInBounds_toArray, List.set_cons_zero, List.set_cons_succ]
  refine calm_to (i := 12) (t := 99) (v := .slice Ax zs.length ax) rfl rfl (by kernel_rfl) (by kernel_rfl) (by kernel_rfl) (fun _ _ _ h => h) (calm_move rfl (.tmp 18) (.inl rfl) rfl) ?_
  simp only [List.setIfInBounds_toArray, List.set_cons_zero, List.set_cons_succ]
  refine calm_to (i := 13) (t := 100) (v := .slice Ay zs.length ay) rfl rfl (by kernel_rfl) (by kernel_rfl) (by kernel_rfl) (fun _ _ _ h => h) (calm_move rfl (.tmp 20) (.inl rfl) rfl) ?_
  simp only [List.setIfInBounds_toArray, List.set_cons_zero, List.set_cons_succ]
  refine calm_to (i := 14) (t := 101) (v := .bool true) rfl rfl (by kernel_rfl) (by kernel_rfl) (by kernel_rfl) (fun _ _ _ h => h) (calm_call2 rfl 28 (.tmp 99) (.tmp 100) #[22, 22] rfl (enters_of Try.func28 (by kernel_rfl) rfl) (.slice Ax zs.length ax) (.slice Ay zs.length ay) rfl rfl (fun U hU => (rsameInts_yes Ax Ay zs.length ax ay zs U (I_x.out.below hU) (I_y.out.below hU)).mono fun _ _ hh => ⟨hh.1, hU.trans (hh.2.mono hU.size)⟩)) ?_
  simp only [List.setIfInBounds_toArray, List.set_cons_zero, List.set_cons_succ]
  refine calm_to (i := 15) (t := 102) (v := .bool true) rfl rfl (by kernel_rfl) (by kernel_rfl) (by kernel_rfl) (fun _ _ _ h => h) (calm_pick rfl (.tmp 98) (.tmp 101) (.const (.bool false)) rfl true rfl rfl) ?_
  simp only [List.setIfInBounds_toArray, List.set_cons_zero, List.set_cons_succ]
  refine calm_to (i := 16) (t := 103) (v := .bool true) rfl rfl (by kernel_rfl) (by kernel_rfl) (by kernel_rfl) (fun _ _ _ h => h) (calm_move rfl (.tmp 102) (.inl rfl) rfl) ?_
  simp only [List.setIfInBounds_toArray, List.set_cons_zero, List.set_cons_succ]
  refine calm_to (i := 17) (t := 104) (v := .int .i64 eW) rfl rfl (by kernel_rfl) (by kernel_rfl) (by kernel_rfl) (fun _ _ _ h => h) (calm_move rfl (.tmp 19) (.inl rfl) rfl) ?_
  simp only [List.setIfInBounds_toArray, List.set_cons_zero, List.set_cons_succ]
  refine calm_to (i := 18) (t := 105) (v := .int .i64 eW) rfl rfl (by kernel_rfl) (by kernel_rfl) (by kernel_rfl) (fun _ _ _ h => h) (calm_move rfl (.tmp 21) (.inl rfl) rfl) ?_
  simp only [List.setIfInBounds_toArray, List.set_cons_zero, List.set_cons_succ]
  refine calm_to (i := 19) (t := 106) (v := .bool true) rfl rfl (by kernel_rfl) (by kernel_rfl) (by kernel_rfl) (fun _ _ _ h => h) (calm_of rfl (fun U _ => by go_simp)) ?_
  simp only [List.setIfInBounds_toArray, List.set_cons_zero, List.set_cons_succ]
  refine calm_to (i := 20) (t := 107) (v := .bool true) rfl rfl (by kernel_rfl) (by kernel_rfl) (by kernel_rfl) (fun _ _ _ h => h) (calm_pick rfl (.tmp 103) (.tmp 106) (.const (.bool false)) rfl true rfl rfl) ?_
  simp only [List.setIfInBounds_toArray, List.set_cons_zero, List.set_cons_succ]
  refine calm_to (i := 21) (t := 108) (v := .bool true) rfl rfl (by kernel_rfl) (by kernel_rfl) (by kernel_rfl) (fun _ _ _ h => h) (calm_move rfl (.tmp 107) (.inl rfl) rfl) ?_
  simp only [List.setIfInBounds_toArray, List.set_cons_zero, List.set_cons_succ]
  refine calm_to (i := 22) (t := 109) (v := .int .i64 z) rfl rfl (by kernel_rfl) (by kernel_rfl) (by kernel_rfl) (fun _ _ _ h => h) (calm_move rfl (.tmp 22) (.inl rfl) rfl) ?_
  simp only [List.setIfInBounds_toArray, List.set_cons_zero, List.set_cons_succ]
  refine calm_to (i := 23) (t := 110) (v := .int .i64 z) rfl rfl (by kernel_rfl) (by kernel_rfl) (by kernel_rfl) (fun _ _ _ h => h) (calm_move rfl (.tmp 24) (.inl rfl) rfl) ?_
  simp only [List.setIfInBounds_toArray, List.set_cons_zero, List.set_cons_succ]
  refine calm_to (i := 24) (t := 111) (v := .bool true) rfl rfl (by kernel_rfl) (by kernel_rfl) (by kernel_rfl) (fun _ _ _ h => h) (calm_of rfl (fun U _ => by go_simp)) ?_
  simp only [List.setIfInBounds_toArray, List.set_cons_zero, List.set_cons_succ]
  refine calm_to (i := 25) (t := 112) (v := .bool true) rfl rfl (by kernel_rfl) (by kernel_rfl) (by kernel_rfl) (fun _ _ _ h => h) (calm_pick rfl (.tmp 108) (.tmp 111) (.const (.bool false)) rfl true rfl rfl) ?_
  simp only [List.setIfInBounds_toArray, List.set_cons_zero, List.set_cons_succ]
  refine calm_to (i := 26) (t := 113) (v := .bool true) rfl rfl (by kernel_rfl) (by kernel_rfl) (by kernel_rfl) (fun _ _ _ h => h) (calm_move rfl (.tmp 112) (.inl rfl) rfl) ?_
  simp only [List.setIfInBounds_toArray, List.set_cons_zero, List.set_cons_succ]
  refine calm_to (i := 27) (t := 114) (v := .int .i64 eX) rfl rfl (by kernel_rfl) (by kernel_rfl) (by kernel_rfl) (fun _ _ _ h => h) (calm_move rfl (.tmp 23) (.inl rfl) rfl) ?_
  simp only [List.setIfInBounds_toArray, List.set_cons_zero, List.set_cons_succ]
  refine calm_to (i := 28) (t := 115) (v := .int .i64 eX) rfl rfl (by kernel_rfl) (by kernel_rfl) (by kernel_rfl) (fun _ _ _ h => h) (calm_move rfl (.tmp 25) (.inl rfl) rfl) ?_
  simp only [List.setIfInBounds_toArray, List.set_cons_zero, List.set_cons_succ]
  refine calm_to (i := 29) (t := 116) (v := .bool true) rfl rfl (by kernel_rfl) (by kernel_rfl) (by kernel_rfl) (fun _ _ _ h => h) (calm_of rfl (fun U _ => by go_simp)) ?_
  simp only [List.setIfInBounds_toArray, List.set_cons_zero, List.set_cons_succ]
  refine calm_to (i := 30) (t := 117) (v := .bool true) rfl rfl (by kernel_rfl) (by kernel_rfl) (by kernel_rfl) (fun _ _ _ h => h) (calm_pick rfl (.tmp 113) (.tmp 116) (.const (.bool false)) rfl true rfl rfl) ?_
  simp only [List.setIfInBounds_toArray, List.set_cons_zero, List.set_cons_succ]
  refine calm_to (i := 31) (t := 118) (v := .bool true) rfl rfl (by kernel_rfl) (by kernel_rfl) (by kernel_rfl) (fun _ _ _ h => h) (calm_move rfl (.tmp 117) (.inl rfl) rfl) ?_
  simp only [List.setIfInBounds_toArray, List.set_cons_zero, List.set_cons_succ]
  refine calm_to (i := 32) (t := 119) (v := .agg #[.slice A n a, .slice B m b, .slice D k d]) rfl rfl (by kernel_rfl) (by kernel_rfl) (by kernel_rfl) (fun _ _ _ h => h) (calm_chn rfl (.tmp 8) rfl _ rfl (fun U hU => K_c.out.below hU K_c.out.lt)) ?_
  simp only [List.setIfInBounds_toArray, List.set_cons_zero, List.set_cons_succ]
  refine calm_to (i := 33) (t := 120) (v := .int .i64 er) rfl rfl (by kernel_rfl) (by kernel_rfl) (by kernel_rfl) (fun _ _ _ h => h) (calm_call1 rfl 29 (.tmp 119) #[24] rfl (enters_of Try.func29 (by kernel_rfl) rfl) (.agg #[.slice A n a, .slice B m b, .slice D k d]) rfl (fun U hU => (CM.out.1 A B D n a m b k d U (P_c.out.below hU)).mono fun _ _ hh => ⟨hh.1, hU.trans (hh.2.mono hU.size)⟩)) ?_
  simp only [List.setIfInBounds_toArray, List.set_cons_zero, List.set_cons_succ]
  refine calm_to (i := 34) (t := 121) (v := .bool y) rfl rfl (by kernel_rfl) (by kernel_rfl) (by kernel_rfl) (fun _ _ _ h => h) (calm_of rfl (fun U _ => by have h := HY.out; go_simp)) ?_
  simp only [List.setIfInBounds_toArray, List.set_cons_zero, List.set_cons_succ]
  refine calm_to (i := 35) (t := 122) (v := .bool y) rfl rfl (by kernel_rfl) (by kernel_rfl) (by kernel_rfl) (fun _ _ _ h => h) (calm_move rfl (.tmp 27) (.inl rfl) rfl) ?_
  simp only [List.setIfInBounds_toArray, List.set_cons_zero, List.set_cons_succ]
  refine calm_to (i := 36) (t := 123) (v := .bool true) rfl rfl (by kernel_rfl) (by kernel_rfl) (by kernel_rfl) (fun _ _ _ h => h) (calm_of rfl (fun U _ => by go_simp)) ?_
  simp only [List.setIfInBounds_toArray, List.set_cons_zero, List.set_cons_succ]
  refine calm_to (i := 37) (t := 124) (v := .bool true) rfl rfl (by kernel_rfl) (by kernel_rfl) (by kernel_rfl) (fun _ _ _ h => h) (calm_pick rfl (.tmp 118) (.tmp 123) (.const (.bool false)) rfl true rfl rfl) ?_
  simp only [List.setIfInBounds_toArray, List.set_cons_zero, List.set_cons_succ]
  refine calm_to (i := 38) (t := 125) (v := .bool true) rfl rfl (by kernel_rfl) (by kernel_rfl) (by kernel_rfl) (fun _ _ _ h => h) (calm_move rfl (.tmp 124) (.inl rfl) rfl) ?_
  simp only [List.setIfInBounds_toArray, List.set_cons_zero, List.set_cons_succ]
  refine calm_to (i := 39) (t := 126) (v := .agg #[.slice A n a, .slice B m b, .slice D k d]) rfl rfl (by kernel_rfl) (by kernel_rfl) (by kernel_rfl) (fun _ _ _ h => h) (calm_chn rfl (.tmp 8) rfl _ rfl (fun U hU => K_c.out.below hU K_c.out.lt)) ?_
  simp only [List.setIfInBounds_toArray, List.set_cons_zero, List.set_cons_succ]
  refine calm_to (i := 40) (t := 127) (v := .agg #[.slice A2 n2 a2, .slice B2 m2 b2, .slice D2 k2 d2]) rfl rfl (by kernel_rfl) (by kernel_rfl) (by kernel_rfl) (fun _ _ _ h => h) (calm_chn rfl (.tmp 9) rfl _ rfl (fun U hU => K_o.out.below hU K_o.out.lt)) ?_
  simp only [List.setIfInBounds_toArray, List.set_cons_zero, List.set_cons_succ]
  refine calm_to (i := 41) (t := 128) (v := .bool s) rfl rfl (by kernel_rfl) (by kernel_rfl) (by kernel_rfl) (fun _ _ _ h => h) (calm_call2 rfl 30 (.tmp 126) (.tmp 127) #[24, 24] rfl (enters_of Try.func30 (by kernel_rfl) rfl) (.agg #[.slice A n a, .slice B m b, .slice D k d]) (.agg #[.slice A2 n2 a2, .slice B2 m2 b2, .slice D2 k2 d2]) rfl rfl (fun U hU => (HS.out ▸ same_any A B D A2 B2 D2 n a m b k d n2 a2 m2 b2 k2 d2 next head tail next2 head2 tail2 U (P_c.out.below hU) (P_o.out.below hU)).mono fun _ _ hh => ⟨hh.1, hU.trans (hh.2.mono hU.size)⟩)) ?_
  simp only [List.setIfInBounds_toArray, List.set_cons_zero, List.set_cons_succ]
  refine calm_to (i := 42) (t := 129) (v := .agg #[.slice A n a, .slice B m b, .slice D k d]) rfl rfl (by kernel_rfl) (by kernel_rfl) (by kernel_rfl) (fun _ _ _ h => h) (calm_chn rfl (.tmp 8) rfl _ rfl (fun U hU => K_c.out.below hU K_c.out.lt)) ?_
  simp only [List.setIfInBounds_toArray, List.set_cons_zero, List.set_cons_succ]
  refine calm_to (i := 43) (t := 130) (v := .agg #[.slice A2 n2 a2, .slice B2 m2 b2, .slice D2 k2 d2]) rfl rfl (by kernel_rfl) (by kernel_rfl) (by kernel_rfl) (fun _ _ _ h => h) (calm_chn rfl (.tmp 9) rfl _ rfl (fun U hU => K_o.out.below hU K_o.out.lt)) ?_
  simp only [List.setIfInBounds_toArray, List.set_cons_zero, List.set_cons_succ]
  refine calm_to (i := 44) (t := 131) (v := .bool s) rfl rfl (by kernel_rfl) (by kernel_rfl) (by kernel_rfl) (fun _ _ _ h => h) (calm_call2 rfl 20 (.tmp 129) (.tmp 130) #[24, 24] rfl (enters_of Try.func20 (by kernel_rfl) rfl) (.agg #[.slice A n a, .slice B m b, .slice D k d]) (.agg #[.slice A2 n2 a2, .slice B2 m2 b2, .slice D2 k2 d2]) rfl rfl (fun U hU => (HS.out ▸ rsame_any A B D A2 B2 D2 n a m b k d n2 a2 m2 b2 k2 d2 next head tail next2 head2 tail2 U (P_c.out.below hU) (P_o.out.below hU)).mono fun _ _ hh => ⟨hh.1, hU.trans (hh.2.mono hU.size)⟩)) ?_
  simp only [List.setIfInBounds_toArray, List.set_cons_zero, List.set_cons_succ]
  refine calm_to (i := 45) (t := 132) (v := .bool true) rfl rfl (by kernel_rfl) (by kernel_rfl) (by kernel_rfl) (fun _ _ _ h => h) (calm_of rfl (fun U _ => by go_simp)) ?_
  simp only [List.setIfInBounds_toArray, List.set_cons_zero, List.set_cons_succ]
  refine calm_to (i := 46) (t := 133) (v := .bool true) rfl rfl (by kernel_rfl) (by kernel_rfl) (by kernel_rfl) (fun _ _ _ h => h) (calm_pick rfl (.tmp 125) (.tmp 132) (.const (.bool false)) rfl true rfl rfl) ?_
  simp only [List.setIfInBounds_toArray, List.set_cons_zero, List.set_cons_succ]
  refine calm_to (i := 47) (t := 12) (v := .bool true) rfl rfl (by kernel_rfl) (by kernel_rfl) (by kernel_rfl) (fun _ _ _ h => h) (calm_move rfl (.tmp 133) (.inr rfl) rfl) ?_
  simp only [List.setIfInBounds_toArray, List.set_cons_zero, List.set_cons_succ]
  refine calm_done (by kernel_rfl) ?_ _
  intro U hU
  replace BB := Lib.hid (below3 BB.out hU)
  clear hU K_c K_o K_a K_b P_c P_o P_a P_b I_x I_y CN CW CX CM HY HS HF1 HF2
  go_wp2
  go_ret
  exact ⟨rfl, BB.out⟩

theorem ltells_any (A B D A2 B2 D2 : Option Addr) (n a m b k d n2 a2 m2 b2 k2 d2 : Nat) (next head tail next2 head2 tail2 : List Int) (nodes lists list node : Int) (w : World) (hn : n ≤ 9223372036854775807) (hm : m ≤ 9223372036854775807) (hk : k ≤ 9223372036854775807) (hn2 : n2 ≤ 9223372036854775807) (hm2 : m2 ≤ 9223372036854775807) (hk2 : k2 ≤ 9223372036854775807) (hp : n ≤ 2000 → m ≤ 2000 → k ≤ 2000 → Chn w A n B m D k next head tail) (hq : n2 ≤ 2000 → m2 ≤ 2000 → k2 ≤ 2000 → Chn w A2 n2 B2 m2 D2 k2 next2 head2 tail2) :
    Calls Try.prog 4 #[.int .i64 nodes, .int .i64 lists, .agg #[.slice A n a, .slice B m b, .slice D k d], .agg #[.slice A2 n2 a2, .slice B2 m2 b2, .slice D2 k2 d2], .int .i64 list, .int .i64 node] w (TrueAns w) := by
  cases hf : fewB n m k with
  | false => exact ltells_long A B D A2 B2 D2 n a m b k d n2 a2 m2 b2 k2 d2 nodes lists list node w hn hm hk hn2 hm2 hk2 (.inl hf)
  | true =>
    obtain ⟨h1, h2, h3⟩ := fewB_true hf
    have hp := hp (by omega) (by omega) (by omega)
    cases hg : fewB n2 m2 k2 with
    | false => exact ltells_long A B D A2 B2 D2 n a m b k d n2 a2 m2 b2 k2 d2 nodes lists list node w hn hm hk hn2 hm2 hk2 (.inr (.inl ⟨hf, hg⟩))
    | true =>
      obtain ⟨g1, g2, g3⟩ := fewB_true hg
      have hq := hq (by omega) (by omega) (by omega)
      by_cases a3 : 300 < nodes
      · by_cases a4 : nodes ≤ 1024
        · exact ltells_long A B D A2 B2 D2 n a m b k d n2 a2 m2 b2 k2 d2 nodes lists list node w hn hm hk hn2 hm2 hk2 (.inr (.inr ⟨hf, hg, a3, a4⟩))
        · exact ltells_big A B D A2 B2 D2 n a m b k d n2 a2 m2 b2 k2 d2 next head tail next2 head2 tail2 nodes lists list node w hn hm hk hn2 hm2 hk2 hf hg a3 a4 hp hq
      · exact ltells_small A B D A2 B2 D2 n a m b k d n2 a2 m2 b2 k2 d2 next head tail next2 head2 tail2 nodes lists list node w hn hm hk hn2 hm2 hk2 hf hg a3 hp hq

end Go.Proofs.Ytiheeehegjfmgaa

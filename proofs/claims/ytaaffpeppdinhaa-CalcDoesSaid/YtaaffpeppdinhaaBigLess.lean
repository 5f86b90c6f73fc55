/-
  The document's answer of layer 2, numbers of a sign and sixteen parts: the contracts of Mul, of any two numbers that are not too great, and of Less.
-/
import Derived.Test.YtaaffpeppdinhaaBigMul
import Derived.OrdersHeld
import Derived.Deep.RegionHeld3
namespace Go.Proofs.Ytaaffpeppdinhaa
open Go.RowKit

theorem mul_big (c d : Array Value) (x y : Int) (w : World) (hc : Big c x) (hd : Big d y) (hx8 : big x < 65536 ^ 8) (hy8 : big y < 65536 ^ 8) : Calls Try.prog 33 #[.agg c, .agg d] w (BigAns (x * y) w) := by
  obtain ⟨m, K, hb, dK, hx, hm⟩ := hc
  obtain ⟨n, L, hb2, dL, hy, hn⟩ := hd
  rw [big_of dK hx] at hx8
  rw [big_of dL hy] at hy8
  have vK := (val_bd dK).1
  have vL := (val_bd dL).1
  have hz : x * y = if (!m == n) = true then -(val K * val L) else val K * val L := by
    rw [hx, hy]
    cases m <;> cases n <;> simp [Int.neg_mul, Int.mul_neg]
  refine mul_parts c d m n (!m == n) K L w hb hb2 dK dL rfl (x * y) hx8 hy8 fun cc C h1 h2 h3 => ⟨fun h4 => ⟨_, C, h1, h2, by rw [hz, h3], fun h5 => absurd h5 h4⟩, fun h4 => ⟨false, C, h1.set_sign false, h2, ?_, fun _ => rfl⟩⟩
  rw [hz, ← h3, h4]
  simp

theorem big_neg (y : Int) : big (-y) = big y := by unfold big; omega

/-- What the two blocks are, in a world that has come about since. -/
def LessS (w : World) (c d : Array Value) (U : World) : Prop := Bk U w.heap.size 44 c ∧ Bk U (w.heap.size + 1) 44 d ∧ Below w.heap.size w U

theorem loads_big {ops : Array Oper} {S : World → Prop} {op : Oper} {a : Act} (hw : Region.wanted op (yielded ops a.tmps) = true) (x : Operand) (ho : op.op = .load 44 x)
    (g : Nat) (hx : a.eval x = .pointer (some ⟨g, 0, none⟩)) {c : Array Value} (hS : ∀ w, S w → Bk w g 44 c) (hs : c.size = 17) : YieldsIf Try.prog ops S op (.agg c) a :=
  .inl ⟨hw, fun w hw' => by
    unfold execOp
    simp only [ho, hx, Instr.loadAt, Instr.sureAddr, Sem.run_bind, Sem.run_pure, Result.andThen_ok, run_loadVar_row w g 44 44 c (0, 0) _ (hS w hw') Try.underlying44 rfl (by rw [hs]; exact sizeBig)]⟩

theorem wpOp_store {ops : Array Oper} {i : Nat} {o : Oper} {a : Act} {w : World} {K : Act → World → Prop} {Q : Exit → Act → World → Prop} (hi : ops[i]? = some o) (hw : Region.wanted o (yielded ops a.tmps) = true) (x y : Operand) (ho : o.op = .store 44 x y)
    (g : Nat) (hx : a.eval x = .pointer (some ⟨g, 0, none⟩)) {old c : Array Value} (hy : a.eval y = .agg c) (hk : Bk w g 44 old) (hs : old.size = 17) (hc : c.size = 17) (h1 : c.all (·.oneCell') = true)
    (h : K (a.put o.dst undef) (w.setRow g c)) : wpOp Try.prog ops Q i K a w := by
  unfold wpOp
  simp only [hi, hw, if_true]
  exact .inl (wp_store_row 44 x y ho g c hx hy 44 old hk (by rw [hc]; exact sizeBig) (by rw [hs, hc]) h1 h)

theorem Big.sign {c : Array Value} {x y : Int} (h : Big c (x + -y)) : ∃ m, c[0]? = some (.bool m) ∧ m = decide (x < y) := by
  obtain ⟨m, L, hb, hd, hz, hm⟩ := h
  refine ⟨m, hb.sign, ?_⟩
  have h0 := (val_bd hd).1
  cases m
  · simp at hz; symm; simp; omega
  · have : val L ≠ 0 := fun h => by simpa using hm h
    simp at hz; symm; simp; omega

set_option maxHeartbeats 2000000 in
set_option maxRecDepth 100000 in
theorem less_big (c d : Array Value) (x y : Int) (w : World) (hc : Big c x) (hd : Big d y) (hV : big x + big y < 65536 ^ 16) : Calls Try.prog 35 #[.agg c, .agg d] w (RetB (.bool (decide (x < y))) w) := by
  obtain ⟨l1, l2, l3⟩ := lies2 w c d 44
  have hsc : Hid (c.size = 17) := by obtain ⟨m, K, hb, -⟩ := hc; exact Lib.hid hb.size
  have hsd : Hid (d.size = 17) := by obtain ⟨m, K, hb, -⟩ := hd; exact Lib.hid hb.size
  have HC := Lib.hid hc
  have HD := Lib.hid hd
  have HV := Lib.hid hV
  clear hc hd hV
  go_enter Try.func35, Try.ntmps35
  go_upto_region 1 with fail
  refine wp_region_held (S := LessS w c d) (by kernel_rfl) ?_
  change wpAnyH _ _ _ _ _ _ _ _ (World.drew _)
  have s0 : LessS w c d ((w.alloc (.cells c 44)).alloc (.cells d 44)).drew := ⟨l1, l2, l3.drew⟩
  clear l1 l2 l3
  generalize ((w.alloc (.cells c 44)).alloc (.cells d 44)).drew = w0 at s0 ⊢
  refine wpAnyH_take (i := 0) (v := .agg c) rfl (by kernel_rfl) (by kernel_rfl) (by kernel_rfl) (fun _ _ _ h => h) (loads_big rfl (.tmp 2) rfl _ rfl (fun _ h => h.1) hsc.out) s0 ?_
  refine wpAnyH_take (i := 1) (v := .agg d) rfl (by kernel_rfl) (by kernel_rfl) (by kernel_rfl) (fun _ _ _ h => h) (loads_big rfl (.tmp 3) rfl _ rfl (fun _ h => h.2.1) hsd.out) s0 ?_
  clear hsc hsd
  refine wpAnyH_all (rs := [2, 4]) (by kernel_rfl) (by simp) ?_
  intro i hi
  simp only [List.mem_cons, List.not_mem_nil, or_false] at hi
  rcases hi with rfl | rfl
  · unfold wpOp
    go_simp
    left
    refine (neg_any d y _ HD.out).mono ?_
    rintro e w1 ⟨cn, rfl, hn, hb1⟩
    have HN := Lib.hid hn
    have s1 : LessS w c d w1 := ⟨s0.1.below hb1 s0.1.lt, s0.2.1.below hb1 s0.2.1.lt, below3 s0.2.2 hb1 (by have := s0.2.2.size; omega)⟩
    refine ⟨s1, ?_⟩
    clear hb1
    refine wpAnyH_all (rs := [3, 4]) (by kernel_rfl) (by simp) ?_
    intro i hi
    simp only [List.mem_cons, List.not_mem_nil, or_false] at hi
    rcases hi with rfl | rfl
    · unfold wpOp
      go_simp
      left
      refine (add_big c cn x (-y) _ HC.out HN.out (by rw [big_neg]; exact HV.out)).mono ?_
      rintro e w2 ⟨cs, rfl, hs, hb2⟩
      have HS := Lib.hid hs
      have hsz : Hid (cs.size = 17) := by obtain ⟨m, K, hb, -⟩ := hs; exact Lib.hid hb.size
      have hal : Hid (cs.all (·.oneCell') = true) := by obtain ⟨m, K, hb, -⟩ := hs; exact Lib.hid hb.all
      have s2 : LessS w c d w2 := ⟨s1.1.below hb2 s1.1.lt, s1.2.1.below hb2 s1.2.1.lt, below3 s1.2.2 hb2 (by have := s1.2.2.size; omega)⟩
      refine ⟨s2, ?_⟩
      clear hb2
      refine wpAnyH_all (rs := [4]) (by kernel_rfl) (by simp) ?_
      intro i hi
      simp only [List.mem_cons, List.not_mem_nil, or_false] at hi
      subst hi
      unfold wpOp
      go_simp
      left
      have t2 : LessS w c d (w2.alloc (.cells #[.bool false, .int .u64 0, .int .u64 0, .int .u64 0, .int .u64 0, .int .u64 0, .int .u64 0, .int .u64 0, .int .u64 0, .int .u64 0, .int .u64 0, .int .u64 0, .int .u64 0, .int .u64 0, .int .u64 0, .int .u64 0, .int .u64 0] 44)) := ⟨s2.1.alloc _, s2.2.1.alloc _, below_alloc s2.2.2 _⟩
      have zt2 := Bk.new w2 44 #[.bool false, .int .u64 0, .int .u64 0, .int .u64 0, .int .u64 0, .int .u64 0, .int .u64 0, .int .u64 0, .int .u64 0, .int .u64 0, .int .u64 0, .int .u64 0, .int .u64 0, .int .u64 0, .int .u64 0, .int .u64 0, .int .u64 0]
      refine ⟨t2, ?_⟩
      refine wpAnyH_all (rs := [5]) (by kernel_rfl) (by simp) ?_
      intro i hi
      simp only [List.mem_cons, List.not_mem_nil, or_false] at hi
      subst hi
      refine wpOp_store rfl rfl (.tmp 5) (.tmp 9) rfl w2.heap.size rfl rfl zt2 (zc_size false) hsz.out hal.out ?_
      have q := (zt2).row cs
      have hbw : Below w.heap.size w _ := below_row t2.2.2 (k := w2.heap.size) (by have := s2.2.2.size; omega) cs
      refine ⟨⟨t2.1.row_far (by have := s2.1.lt; omega) cs, t2.2.1.row_far (by have := s2.2.1.lt; omega) cs, hbw⟩, ?_⟩
      refine wpAnyH_done (by kernel_rfl) ?_ _
      obtain ⟨sg, hsg, hdec⟩ := HS.out.sign
      have x0 := (q.cell 0).trans hsg
      have HB := Lib.hid hbw
      have HR := Lib.hid hdec
      clear q hbw hsg hdec
      generalize World.setRow _ _ _ = V at x0 HB ⊢
      go_wp2
      go_ret
      exact RetB.of (ret_bool HR.out) HB.out
    · unfold wpOp
      go_simp
      left
      have t1 : LessS w c d (w1.alloc (.cells #[.bool false, .int .u64 0, .int .u64 0, .int .u64 0, .int .u64 0, .int .u64 0, .int .u64 0, .int .u64 0, .int .u64 0, .int .u64 0, .int .u64 0, .int .u64 0, .int .u64 0, .int .u64 0, .int .u64 0, .int .u64 0, .int .u64 0] 44)) := ⟨s1.1.alloc _, s1.2.1.alloc _, below_alloc s1.2.2 _⟩
      have zt1 := Bk.new w1 44 #[.bool false, .int .u64 0, .int .u64 0, .int .u64 0, .int .u64 0, .int .u64 0, .int .u64 0, .int .u64 0, .int .u64 0, .int .u64 0, .int .u64 0, .int .u64 0, .int .u64 0, .int .u64 0, .int .u64 0, .int .u64 0, .int .u64 0]
      refine ⟨t1, ?_⟩
      refine wpAnyH_all (rs := [3]) (by kernel_rfl) (by simp) ?_
      intro i hi
      simp only [List.mem_cons, List.not_mem_nil, or_false] at hi
      subst hi
      unfold wpOp
      go_simp
      left
      refine (add_big c cn x (-y) _ HC.out HN.out (by rw [big_neg]; exact HV.out)).mono ?_
      rintro e w2 ⟨cs, rfl, hs, hb2⟩
      have HS := Lib.hid hs
      have hsz : Hid (cs.size = 17) := by obtain ⟨m, K, hb, -⟩ := hs; exact Lib.hid hb.size
      have hal : Hid (cs.all (·.oneCell') = true) := by obtain ⟨m, K, hb, -⟩ := hs; exact Lib.hid hb.all
      have z2 := zt1.below hb2 zt1.lt
      have s2 : LessS w c d w2 := ⟨t1.1.below hb2 t1.1.lt, t1.2.1.below hb2 t1.2.1.lt, below3 t1.2.2 hb2 (by have := t1.2.2.size; omega)⟩
      refine ⟨s2, ?_⟩
      clear hb2
      refine wpAnyH_all (rs := [5]) (by kernel_rfl) (by simp) ?_
      intro i hi
      simp only [List.mem_cons, List.not_mem_nil, or_false] at hi
      subst hi
      refine wpOp_store rfl rfl (.tmp 5) (.tmp 9) rfl w1.heap.size rfl rfl z2 (zc_size false) hsz.out hal.out ?_
      have q := (z2).row cs
      have hbw : Below w.heap.size w _ := below_row s2.2.2 (k := w1.heap.size) (by have := s1.2.2.size; omega) cs
      refine ⟨⟨s2.1.row_far (by have := s1.1.lt; omega) cs, s2.2.1.row_far (by have := s1.2.1.lt; omega) cs, hbw⟩, ?_⟩
      refine wpAnyH_done (by kernel_rfl) ?_ _
      obtain ⟨sg, hsg, hdec⟩ := HS.out.sign
      have x0 := (q.cell 0).trans hsg
      have HB := Lib.hid hbw
      have HR := Lib.hid hdec
      clear q hbw hsg hdec
      generalize World.setRow _ _ _ = V at x0 HB ⊢
      go_wp2
      go_ret
      exact RetB.of (ret_bool HR.out) HB.out
  · unfold wpOp
    go_simp
    left
    have t0 : LessS w c d (w0.alloc (.cells #[.bool false, .int .u64 0, .int .u64 0, .int .u64 0, .int .u64 0, .int .u64 0, .int .u64 0, .int .u64 0, .int .u64 0, .int .u64 0, .int .u64 0, .int .u64 0, .int .u64 0, .int .u64 0, .int .u64 0, .int .u64 0, .int .u64 0] 44)) := ⟨s0.1.alloc _, s0.2.1.alloc _, below_alloc s0.2.2 _⟩
    have zt0 := Bk.new w0 44 #[.bool false, .int .u64 0, .int .u64 0, .int .u64 0, .int .u64 0, .int .u64 0, .int .u64 0, .int .u64 0, .int .u64 0, .int .u64 0, .int .u64 0, .int .u64 0, .int .u64 0, .int .u64 0, .int .u64 0, .int .u64 0, .int .u64 0]
    refine ⟨t0, ?_⟩
    refine wpAnyH_all (rs := [2]) (by kernel_rfl) (by simp) ?_
    intro i hi
    simp only [List.mem_cons, List.not_mem_nil, or_false] at hi
    subst hi
    unfold wpOp
    go_simp
    left
    refine (neg_any d y _ HD.out).mono ?_
    rintro e w1 ⟨cn, rfl, hn, hb1⟩
    have HN := Lib.hid hn
    have z1 := zt0.below hb1 zt0.lt
    have s1 : LessS w c d w1 := ⟨t0.1.below hb1 t0.1.lt, t0.2.1.below hb1 t0.2.1.lt, below3 t0.2.2 hb1 (by have := t0.2.2.size; omega)⟩
    refine ⟨s1, ?_⟩
    clear hb1
    refine wpAnyH_all (rs := [3]) (by kernel_rfl) (by simp) ?_
    intro i hi
    simp only [List.mem_cons, List.not_mem_nil, or_false] at hi
    subst hi
    unfold wpOp
    go_simp
    left
    refine (add_big c cn x (-y) _ HC.out HN.out (by rw [big_neg]; exact HV.out)).mono ?_
    rintro e w2 ⟨cs, rfl, hs, hb2⟩
    have HS := Lib.hid hs
    have hsz : Hid (cs.size = 17) := by obtain ⟨m, K, hb, -⟩ := hs; exact Lib.hid hb.size
    have hal : Hid (cs.all (·.oneCell') = true) := by obtain ⟨m, K, hb, -⟩ := hs; exact Lib.hid hb.all
    have z2 := z1.below hb2 z1.lt
    have s2 : LessS w c d w2 := ⟨s1.1.below hb2 s1.1.lt, s1.2.1.below hb2 s1.2.1.lt, below3 s1.2.2 hb2 (by have := s1.2.2.size; omega)⟩
    refine ⟨s2, ?_⟩
    clear hb2
    refine wpAnyH_all (rs := [5]) (by kernel_rfl) (by simp) ?_
    intro i hi
    simp only [List.mem_cons, List.not_mem_nil, or_false] at hi
    subst hi
    refine wpOp_store rfl rfl (.tmp 5) (.tmp 9) rfl w0.heap.size rfl rfl z2 (zc_size false) hsz.out hal.out ?_
    have q := (z2).row cs
    have hbw : Below w.heap.size w _ := below_row s2.2.2 (k := w0.heap.size) (by have := s0.2.2.size; omega) cs
    refine ⟨⟨s2.1.row_far (by have := s0.1.lt; omega) cs, s2.2.1.row_far (by have := s0.2.1.lt; omega) cs, hbw⟩, ?_⟩
    refine wpAnyH_done (by kernel_rfl) ?_ _
    obtain ⟨sg, hsg, hdec⟩ := HS.out.sign
    have x0 := (q.cell 0).trans hsg
    have HB := Lib.hid hbw
    have HR := Lib.hid hdec
    clear q hbw hsg hdec
    generalize World.setRow _ _ _ = V at x0 HB ⊢
    go_wp2
    go_ret
    exact RetB.of (ret_bool HR.out) HB.out

end Go.Proofs.Ytaaffpeppdinhaa

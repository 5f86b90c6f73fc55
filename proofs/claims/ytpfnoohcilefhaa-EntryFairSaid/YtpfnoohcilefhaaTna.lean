/-
  Layer 14: '==' on tenants; numbers held in their bounds; which tenants may not be.
-/
import Derived.Test.YtpfnoohcilefhaaTnp
import Derived.Test.YtpfnoohcilefhaaLies
import Derived.Test.YtpfnoohcilefhaaCalmX
import Derived.Deep.LoopGhost
import Derived.Deep.QuietTactic
import Derived.BigQuiet
import Derived.Deep.CutBlock
namespace Go.Proofs.Ytpfnoohcilefhaa
open Go.RowKit

theorem infoTn : (Try.prog.info? 76).map (fun i => (i.zero, i.size, i.bytes)) = some (some (.agg #[.int .i64 0, .int .i64 0, .int .i64 0, .int .i64 0, .int .i64 0]), 5, 40) := by kernel_rfl
theorem tn_stood : Try.prog.stoodInHeld 76 = false := by kernel_rfl
theorem tn_guardT : Try.prog.eqGuardType Try.prog.depth 76 = false := by kernel_rfl
theorem guard_tn (o : BinOp) (x y : Operand) (a b : Array Value) (W : World) : (eqGuard o 76 x y (.agg a) (.agg b)).run Try.prog W = .ok () W := run_eqGuard_agg W o 76 x y a b tn_guardT
theorem neq_tn (a b c d e a' b' c' d' e' : Int) (W : World) : (binOp .neq 76 (.agg #[.int .i64 a, .int .i64 b, .int .i64 c, .int .i64 d, .int .i64 e]) (.agg #[.int .i64 a', .int .i64 b', .int .i64 c', .int .i64 d', .int .i64 e'])).run Try.prog W = .ok (.bool (!decide ((⟨a, b, c, d, e⟩ : Tn) = ⟨a', b', c', d', e'⟩))) W := by
  rw [run_neq_struct, run_equalIn_struct (d := 9999) W 76 _ _ (by simp [Program.fieldsOf, Try.underlying76]) tn_stood]
  simp only [Program.fieldsOf, Try.underlying76]
  by_cases ha : a = a'
  · subst ha
    by_cases hb : b = b'
    · subst hb
      by_cases hc : c = c'
      · subst hc
        by_cases hd : d = d'
        · subst hd
          by_cases he : e = e'
          · subst he
            simp [Op.eqFields, go_sem]
          · have t : (e == e') = false := by simpa using he
            simp [Op.eqFields, go_sem, t, he]
        · have t : (d == d') = false := by simpa using hd
          simp [Op.eqFields, go_sem, t, hd]
      · have t : (c == c') = false := by simpa using hc
        simp [Op.eqFields, go_sem, t, hc]
    · have t : (b == b') = false := by simpa using hb
      simp [Op.eqFields, go_sem, t, hb]
  · have t : (a == a') = false := by simpa using ha
    simp [Op.eqFields, go_sem, t, ha]

set_option maxHeartbeats 1000000 in
theorem withinTn_any (n a b : Int) (w : World) :
    Calls Try.prog 72 #[.int .i64 n, .int .i64 a, .int .i64 b] w (RetB (.bool (decide (a ≤ n ∧ n ≤ b))) w) := by
  by_cases h0 : a ≤ n
  · have t0 : decide (a ≤ n) = true := decide_eq_true h0
    by_cases h1 : n ≤ b
    · have t1 : decide (n ≤ b) = true := decide_eq_true h1
      rw [show decide (a ≤ n ∧ n ≤ b) = true from decide_eq_true ⟨h0, h1⟩]
      clear h0 h1
      go_enter Try.func72, Try.ntmps72
      go_wp2
      go_ret
      exact ⟨rfl, Below.refl _ _⟩
    · have t1 : decide (n ≤ b) = false := decide_eq_false h1
      rw [show decide (a ≤ n ∧ n ≤ b) = false from decide_eq_false (fun q => h1 q.2)]
      clear h0 h1
      go_enter Try.func72, Try.ntmps72
      go_wp2
      go_ret
      exact ⟨rfl, Below.refl _ _⟩
  · have t0 : decide (a ≤ n) = false := decide_eq_false h0
    rw [show decide (a ≤ n ∧ n ≤ b) = false from decide_eq_false (fun q => h0 q.1)]
    clear h0
    go_enter Try.func72, Try.ntmps72
    go_wp2
    go_ret
    exact ⟨rfl, Below.refl _ _⟩

set_option maxHeartbeats 1000000 in
theorem within64_any (n a b : Int) (w : World) :
    Calls Try.prog 79 #[.int .i64 n, .int .i64 a, .int .i64 b] w (RetB (.bool (decide (a ≤ n ∧ n ≤ b))) w) := by
  by_cases h0 : a ≤ n
  · have t0 : decide (a ≤ n) = true := decide_eq_true h0
    by_cases h1 : n ≤ b
    · have t1 : decide (n ≤ b) = true := decide_eq_true h1
      rw [show decide (a ≤ n ∧ n ≤ b) = true from decide_eq_true ⟨h0, h1⟩]
      clear h0 h1
      go_enter Try.func79, Try.ntmps79
      go_wp2
      go_ret
      exact ⟨rfl, Below.refl _ _⟩
    · have t1 : decide (n ≤ b) = false := decide_eq_false h1
      rw [show decide (a ≤ n ∧ n ≤ b) = false from decide_eq_false (fun q => h1 q.2)]
      clear h0 h1
      go_enter Try.func79, Try.ntmps79
      go_wp2
      go_ret
      exact ⟨rfl, Below.refl _ _⟩
  · have t0 : decide (a ≤ n) = false := decide_eq_false h0
    rw [show decide (a ≤ n ∧ n ≤ b) = false from decide_eq_false (fun q => h0 q.1)]
    clear h0
    go_enter Try.func79, Try.ntmps79
    go_wp2
    go_ret
    exact ⟨rfl, Below.refl _ _⟩

set_option maxHeartbeats 1000000 in
theorem rinTn_any (n a b : Int) (w : World) :
    Calls Try.prog 69 #[.int .i64 n, .int .i64 a, .int .i64 b] w (RetB (.bool (decide (a ≤ n ∧ n ≤ b))) w) := by
  by_cases h0 : a ≤ n
  · have t0 : decide (a ≤ n) = true := decide_eq_true h0
    by_cases h1 : n ≤ b
    · have t1 : decide (n ≤ b) = true := decide_eq_true h1
      rw [show decide (a ≤ n ∧ n ≤ b) = true from decide_eq_true ⟨h0, h1⟩]
      clear h0 h1
      go_enter Try.func69, Try.ntmps69
      go_wp2
      go_ret
      exact ⟨rfl, Below.refl _ _⟩
    · have t1 : decide (n ≤ b) = false := decide_eq_false h1
      rw [show decide (a ≤ n ∧ n ≤ b) = false from decide_eq_false (fun q => h1 q.2)]
      clear h0 h1
      go_enter Try.func69, Try.ntmps69
      go_wp2
      go_ret
      exact ⟨rfl, Below.refl _ _⟩
  · have t0 : decide (a ≤ n) = false := decide_eq_false h0
    rw [show decide (a ≤ n ∧ n ≤ b) = false from decide_eq_false (fun q => h0 q.1)]
    clear h0
    go_enter Try.func69, Try.ntmps69
    go_wp2
    go_ret
    exact ⟨rfl, Below.refl _ _⟩

set_option maxHeartbeats 1000000 in
theorem soMany_any (n : Int) (w : World) :
    Calls Try.prog 62 #[.int .i64 n] w (RetB (.bool (decide (1 ≤ n ∧ n ≤ 16))) w) := by
  go_enter Try.func62, Try.ntmps62
  go_wp2_with fail
  refine (withinTn_any n 1 16 _).mono ?_
  rintro e w1 ⟨rfl, b1⟩
  have B1 := Lib.hid b1
  clear b1
  go_wp2
  go_ret
  exact ⟨by simp, B1.out⟩

set_option maxHeartbeats 4000000 in
theorem notBe_any (x : Tn) (w : World) :
    Calls Try.prog 74 #[.agg (tnc x)] w (RetB (.bool (!decide (okTn x))) w) := by
  obtain ⟨wt, qu, li, tg, rn⟩ := x
  unfold tnc
  dsimp only
  by_cases f0 : 1 ≤ wt ∧ wt ≤ 16
  · by_cases f1 : 0 ≤ qu ∧ qu ≤ 256
    · by_cases f2 : 0 ≤ li ∧ li ≤ qu
      · by_cases f3 : 0 ≤ tg ∧ tg ≤ 1152921504606846976
        · by_cases f4 : 0 ≤ rn ∧ rn ≤ 1099511627776
          · rw [show decide (okTn (⟨wt, qu, li, tg, rn⟩ : Tn)) = true from decide_eq_true ⟨f0, f1, f2, f3, f4⟩]
            have F0 := Lib.hid (decide_eq_true f0)
            have F1 := Lib.hid (decide_eq_true f1)
            have F2 := Lib.hid (decide_eq_true f2)
            have F3 := Lib.hid (decide_eq_true f3)
            have F4 := Lib.hid (decide_eq_true f4)
            clear f0 f1 f2 f3 f4
            obtain ⟨kb0, hb0⟩ := lay1 w #[.int .i64 wt, .int .i64 qu, .int .i64 li, .int .i64 tg, .int .i64 rn] 76
            obtain ⟨V, hV⟩ : ∃ V, w.alloc (.cells #[.int .i64 wt, .int .i64 qu, .int .i64 li, .int .i64 tg, .int .i64 rn] 76) = V := ⟨_, rfl⟩
            rw [hV] at hb0 kb0
            have HV := Lib.hid hV
            have BB := Lib.hid hb0
            have Kx := Lib.hid kb0
            have HBx : Hid (w.heap.size ≤ w.heap.size) := Lib.hid (Nat.le_refl _)
            clear hV hb0 kb0
            go_enter Try.func74, Try.ntmps74
            go_upto_region 1 with fail
            rw [HV.out]
            clear HV
            obtain ⟨qx_0, qx_1, qx_2, qx_3, qx_4⟩ := Kx.out.c5
            have lx := Kx.out.lt
            go_wp2_with fail
            refine (withinTn_any wt 1 16 _).mono ?_
            rw [F0.out]
            rintro e U1 ⟨rfl, bU1⟩
            clear qx_0 qx_1 qx_2 qx_3 qx_4 lx
            replace BB := Lib.hid (below3 BB.out bU1)
            replace Kx := Lib.hid (Kx.out.below bU1 Kx.out.lt)
            clear bU1
            obtain ⟨qx_0, qx_1, qx_2, qx_3, qx_4⟩ := Kx.out.c5
            have lx := Kx.out.lt
            go_wp2_with fail
            refine (withinTn_any qu 0 256 _).mono ?_
            rw [F1.out]
            rintro e U2 ⟨rfl, bU2⟩
            clear qx_0 qx_1 qx_2 qx_3 qx_4 lx
            replace BB := Lib.hid (below3 BB.out bU2)
            replace Kx := Lib.hid (Kx.out.below bU2 Kx.out.lt)
            clear bU2
            obtain ⟨qx_0, qx_1, qx_2, qx_3, qx_4⟩ := Kx.out.c5
            have lx := Kx.out.lt
            go_wp2_with fail
            refine (withinTn_any li 0 qu _).mono ?_
            rw [F2.out]
            rintro e U3 ⟨rfl, bU3⟩
            clear qx_0 qx_1 qx_2 qx_3 qx_4 lx
            replace BB := Lib.hid (below3 BB.out bU3)
            replace Kx := Lib.hid (Kx.out.below bU3 Kx.out.lt)
            clear bU3
            obtain ⟨qx_0, qx_1, qx_2, qx_3, qx_4⟩ := Kx.out.c5
            have lx := Kx.out.lt
            go_wp2_with fail
            refine (within64_any tg 0 1152921504606846976 _).mono ?_
            rw [F3.out]
            rintro e U4 ⟨rfl, bU4⟩
            clear qx_0 qx_1 qx_2 qx_3 qx_4 lx
            replace BB := Lib.hid (below3 BB.out bU4)
            replace Kx := Lib.hid (Kx.out.below bU4 Kx.out.lt)
            clear bU4
            obtain ⟨qx_0, qx_1, qx_2, qx_3, qx_4⟩ := Kx.out.c5
            have lx := Kx.out.lt
            go_wp2_with fail
            refine (within64_any rn 0 1099511627776 _).mono ?_
            rw [F4.out]
            rintro e U5 ⟨rfl, bU5⟩
            clear qx_0 qx_1 qx_2 qx_3 qx_4 lx
            replace BB := Lib.hid (below3 BB.out bU5)
            replace Kx := Lib.hid (Kx.out.below bU5 Kx.out.lt)
            clear bU5
            obtain ⟨qx_0, qx_1, qx_2, qx_3, qx_4⟩ := Kx.out.c5
            have lx := Kx.out.lt
            go_wp2
            go_ret
            exact ⟨rfl, BB.out⟩
          · rw [show decide (okTn (⟨wt, qu, li, tg, rn⟩ : Tn)) = false from decide_eq_false (fun q => f4 q.2.2.2.2)]
            have F0 := Lib.hid (decide_eq_true f0)
            have F1 := Lib.hid (decide_eq_true f1)
            have F2 := Lib.hid (decide_eq_true f2)
            have F3 := Lib.hid (decide_eq_true f3)
            have F4 := Lib.hid (decide_eq_false f4)
            clear f0 f1 f2 f3 f4
            obtain ⟨kb0, hb0⟩ := lay1 w #[.int .i64 wt, .int .i64 qu, .int .i64 li, .int .i64 tg, .int .i64 rn] 76
            obtain ⟨V, hV⟩ : ∃ V, w.alloc (.cells #[.int .i64 wt, .int .i64 qu, .int .i64 li, .int .i64 tg, .int .i64 rn] 76) = V := ⟨_, rfl⟩
            rw [hV] at hb0 kb0
            have HV := Lib.hid hV
            have BB := Lib.hid hb0
            have Kx := Lib.hid kb0
            have HBx : Hid (w.heap.size ≤ w.heap.size) := Lib.hid (Nat.le_refl _)
            clear hV hb0 kb0
            go_enter Try.func74, Try.ntmps74
            go_upto_region 1 with fail
            rw [HV.out]
            clear HV
            obtain ⟨qx_0, qx_1, qx_2, qx_3, qx_4⟩ := Kx.out.c5
            have lx := Kx.out.lt
            go_wp2_with fail
            refine (withinTn_any wt 1 16 _).mono ?_
            rw [F0.out]
            rintro e U1 ⟨rfl, bU1⟩
            clear qx_0 qx_1 qx_2 qx_3 qx_4 lx
            replace BB := Lib.hid (below3 BB.out bU1)
            replace Kx := Lib.hid (Kx.out.below bU1 Kx.out.lt)
            clear bU1
            obtain ⟨qx_0, qx_1, qx_2, qx_3, qx_4⟩ := Kx.out.c5
            have lx := Kx.out.lt
            go_wp2_with fail
            refine (withinTn_any qu 0 256 _).mono ?_
            rw [F1.out]
            rintro e U2 ⟨rfl, bU2⟩
            clear qx_0 qx_1 qx_2 qx_3 qx_4 lx
            replace BB := Lib.hid (below3 BB.out bU2)
            replace Kx := Lib.hid (Kx.out.below bU2 Kx.out.lt)
            clear bU2
            obtain ⟨qx_0, qx_1, qx_2, qx_3, qx_4⟩ := Kx.out.c5
            have lx := Kx.out.lt
            go_wp2_with fail
            refine (withinTn_any li 0 qu _).mono ?_
            rw [F2.out]
            rintro e U3 ⟨rfl, bU3⟩
            clear qx_0 qx_1 qx_2 qx_3 qx_4 lx
            replace BB := Lib.hid (below3 BB.out bU3)
            replace Kx := Lib.hid (Kx.out.below bU3 Kx.out.lt)
            clear bU3
            obtain ⟨qx_0, qx_1, qx_2, qx_3, qx_4⟩ := Kx.out.c5
            have lx := Kx.out.lt
            go_wp2_with fail
            refine (within64_any tg 0 1152921504606846976 _).mono ?_
            rw [F3.out]
            rintro e U4 ⟨rfl, bU4⟩
            clear qx_0 qx_1 qx_2 qx_3 qx_4 lx
            replace BB := Lib.hid (below3 BB.out bU4)
            replace Kx := Lib.hid (Kx.out.below bU4 Kx.out.lt)
            clear bU4
            obtain ⟨qx_0, qx_1, qx_2, qx_3, qx_4⟩ := Kx.out.c5
            have lx := Kx.out.lt
            go_wp2_with fail
            refine (within64_any rn 0 1099511627776 _).mono ?_
            rw [F4.out]
            rintro e U5 ⟨rfl, bU5⟩
            clear qx_0 qx_1 qx_2 qx_3 qx_4 lx
            replace BB := Lib.hid (below3 BB.out bU5)
            replace Kx := Lib.hid (Kx.out.below bU5 Kx.out.lt)
            clear bU5
            obtain ⟨qx_0, qx_1, qx_2, qx_3, qx_4⟩ := Kx.out.c5
            have lx := Kx.out.lt
            go_wp2
            go_ret
            exact ⟨rfl, BB.out⟩
        · rw [show decide (okTn (⟨wt, qu, li, tg, rn⟩ : Tn)) = false from decide_eq_false (fun q => f3 q.2.2.2.1)]
          have F0 := Lib.hid (decide_eq_true f0)
          have F1 := Lib.hid (decide_eq_true f1)
          have F2 := Lib.hid (decide_eq_true f2)
          have F3 := Lib.hid (decide_eq_false f3)
          clear f0 f1 f2 f3
          obtain ⟨kb0, hb0⟩ := lay1 w #[.int .i64 wt, .int .i64 qu, .int .i64 li, .int .i64 tg, .int .i64 rn] 76
          obtain ⟨V, hV⟩ : ∃ V, w.alloc (.cells #[.int .i64 wt, .int .i64 qu, .int .i64 li, .int .i64 tg, .int .i64 rn] 76) = V := ⟨_, rfl⟩
          rw [hV] at hb0 kb0
          have HV := Lib.hid hV
          have BB := Lib.hid hb0
          have Kx := Lib.hid kb0
          have HBx : Hid (w.heap.size ≤ w.heap.size) := Lib.hid (Nat.le_refl _)
          clear hV hb0 kb0
          go_enter Try.func74, Try.ntmps74
          go_upto_region 1 with fail
          rw [HV.out]
          clear HV
          obtain ⟨qx_0, qx_1, qx_2, qx_3, qx_4⟩ := Kx.out.c5
          have lx := Kx.out.lt
          go_wp2_with fail
          refine (withinTn_any wt 1 16 _).mono ?_
          rw [F0.out]
          rintro e U1 ⟨rfl, bU1⟩
          clear qx_0 qx_1 qx_2 qx_3 qx_4 lx
          replace BB := Lib.hid (below3 BB.out bU1)
          replace Kx := Lib.hid (Kx.out.below bU1 Kx.out.lt)
          clear bU1
          obtain ⟨qx_0, qx_1, qx_2, qx_3, qx_4⟩ := Kx.out.c5
          have lx := Kx.out.lt
          go_wp2_with fail
          refine (withinTn_any qu 0 256 _).mono ?_
          rw [F1.out]
          rintro e U2 ⟨rfl, bU2⟩
          clear qx_0 qx_1 qx_2 qx_3 qx_4 lx
          replace BB := Lib.hid (below3 BB.out bU2)
          replace Kx := Lib.hid (Kx.out.below bU2 Kx.out.lt)
          clear bU2
          obtain ⟨qx_0, qx_1, qx_2, qx_3, qx_4⟩ := Kx.out.c5
          have lx := Kx.out.lt
          go_wp2_with fail
          refine (withinTn_any li 0 qu _).mono ?_
          rw [F2.out]
          rintro e U3 ⟨rfl, bU3⟩
          clear qx_0 qx_1 qx_2 qx_3 qx_4 lx
          replace BB := Lib.hid (below3 BB.out bU3)
          replace Kx := Lib.hid (Kx.out.below bU3 Kx.out.lt)
          clear bU3
          obtain ⟨qx_0, qx_1, qx_2, qx_3, qx_4⟩ := Kx.out.c5
          have lx := Kx.out.lt
          go_wp2_with fail
          refine (within64_any tg 0 1152921504606846976 _).mono ?_
          rw [F3.out]
          rintro e U4 ⟨rfl, bU4⟩
          clear qx_0 qx_1 qx_2 qx_3 qx_4 lx
          replace BB := Lib.hid (below3 BB.out bU4)
          replace Kx := Lib.hid (Kx.out.below bU4 Kx.out.lt)
          clear bU4
          obtain ⟨qx_0, qx_1, qx_2, qx_3, qx_4⟩ := Kx.out.c5
          have lx := Kx.out.lt
          go_wp2
          go_ret
          exact ⟨rfl, BB.out⟩
      · rw [show decide (okTn (⟨wt, qu, li, tg, rn⟩ : Tn)) = false from decide_eq_false (fun q => f2 q.2.2.1)]
        have F0 := Lib.hid (decide_eq_true f0)
        have F1 := Lib.hid (decide_eq_true f1)
        have F2 := Lib.hid (decide_eq_false f2)
        clear f0 f1 f2
        obtain ⟨kb0, hb0⟩ := lay1 w #[.int .i64 wt, .int .i64 qu, .int .i64 li, .int .i64 tg, .int .i64 rn] 76
        obtain ⟨V, hV⟩ : ∃ V, w.alloc (.cells #[.int .i64 wt, .int .i64 qu, .int .i64 li, .int .i64 tg, .int .i64 rn] 76) = V := ⟨_, rfl⟩
        rw [hV] at hb0 kb0
        have HV := Lib.hid hV
        have BB := Lib.hid hb0
        have Kx := Lib.hid kb0
        have HBx : Hid (w.heap.size ≤ w.heap.size) := Lib.hid (Nat.le_refl _)
        clear hV hb0 kb0
        go_enter Try.func74, Try.ntmps74
        go_upto_region 1 with fail
        rw [HV.out]
        clear HV
        obtain ⟨qx_0, qx_1, qx_2, qx_3, qx_4⟩ := Kx.out.c5
        have lx := Kx.out.lt
        go_wp2_with fail
        refine (withinTn_any wt 1 16 _).mono ?_
        rw [F0.out]
        rintro e U1 ⟨rfl, bU1⟩
        clear qx_0 qx_1 qx_2 qx_3 qx_4 lx
        replace BB := Lib.hid (below3 BB.out bU1)
        replace Kx := Lib.hid (Kx.out.below bU1 Kx.out.lt)
        clear bU1
        obtain ⟨qx_0, qx_1, qx_2, qx_3, qx_4⟩ := Kx.out.c5
        have lx := Kx.out.lt
        go_wp2_with fail
        refine (withinTn_any qu 0 256 _).mono ?_
        rw [F1.out]
        rintro e U2 ⟨rfl, bU2⟩
        clear qx_0 qx_1 qx_2 qx_3 qx_4 lx
        replace BB := Lib.hid (below3 BB.out bU2)
        replace Kx := Lib.hid (Kx.out.below bU2 Kx.out.lt)
        clear bU2
        obtain ⟨qx_0, qx_1, qx_2, qx_3, qx_4⟩ := Kx.out.c5
        have lx := Kx.out.lt
        go_wp2_with fail
        refine (withinTn_any li 0 qu _).mono ?_
        rw [F2.out]
        rintro e U3 ⟨rfl, bU3⟩
        clear qx_0 qx_1 qx_2 qx_3 qx_4 lx
        replace BB := Lib.hid (below3 BB.out bU3)
        replace Kx := Lib.hid (Kx.out.below bU3 Kx.out.lt)
        clear bU3
        obtain ⟨qx_0, qx_1, qx_2, qx_3, qx_4⟩ := Kx.out.c5
        have lx := Kx.out.lt
        go_wp2
        go_ret
        exact ⟨rfl, BB.out⟩
    · rw [show decide (okTn (⟨wt, qu, li, tg, rn⟩ : Tn)) = false from decide_eq_false (fun q => f1 q.2.1)]
      have F0 := Lib.hid (decide_eq_true f0)
      have F1 := Lib.hid (decide_eq_false f1)
      clear f0 f1
      obtain ⟨kb0, hb0⟩ := lay1 w #[.int .i64 wt, .int .i64 qu, .int .i64 li, .int .i64 tg, .int .i64 rn] 76
      obtain ⟨V, hV⟩ : ∃ V, w.alloc (.cells #[.int .i64 wt, .int .i64 qu, .int .i64 li, .int .i64 tg, .int .i64 rn] 76) = V := ⟨_, rfl⟩
      rw [hV] at hb0 kb0
      have HV := Lib.hid hV
      have BB := Lib.hid hb0
      have Kx := Lib.hid kb0
      have HBx : Hid (w.heap.size ≤ w.heap.size) := Lib.hid (Nat.le_refl _)
      clear hV hb0 kb0
      go_enter Try.func74, Try.ntmps74
      go_upto_region 1 with fail
      rw [HV.out]
      clear HV
      obtain ⟨qx_0, qx_1, qx_2, qx_3, qx_4⟩ := Kx.out.c5
      have lx := Kx.out.lt
      go_wp2_with fail
      refine (withinTn_any wt 1 16 _).mono ?_
      rw [F0.out]
      rintro e U1 ⟨rfl, bU1⟩
      clear qx_0 qx_1 qx_2 qx_3 qx_4 lx
      replace BB := Lib.hid (below3 BB.out bU1)
      replace Kx := Lib.hid (Kx.out.below bU1 Kx.out.lt)
      clear bU1
      obtain ⟨qx_0, qx_1, qx_2, qx_3, qx_4⟩ := Kx.out.c5
      have lx := Kx.out.lt
      go_wp2_with fail
      refine (withinTn_any qu 0 256 _).mono ?_
      rw [F1.out]
      rintro e U2 ⟨rfl, bU2⟩
      clear qx_0 qx_1 qx_2 qx_3 qx_4 lx
      replace BB := Lib.hid (below3 BB.out bU2)
      replace Kx := Lib.hid (Kx.out.below bU2 Kx.out.lt)
      clear bU2
      obtain ⟨qx_0, qx_1, qx_2, qx_3, qx_4⟩ := Kx.out.c5
      have lx := Kx.out.lt
      go_wp2
      go_ret
      exact ⟨rfl, BB.out⟩
  · rw [show decide (okTn (⟨wt, qu, li, tg, rn⟩ : Tn)) = false from decide_eq_false (fun q => f0 q.1)]
    have F0 := Lib.hid (decide_eq_false f0)
    clear f0
    obtain ⟨kb0, hb0⟩ := lay1 w #[.int .i64 wt, .int .i64 qu, .int .i64 li, .int .i64 tg, .int .i64 rn] 76
    obtain ⟨V, hV⟩ : ∃ V, w.alloc (.cells #[.int .i64 wt, .int .i64 qu, .int .i64 li, .int .i64 tg, .int .i64 rn] 76) = V := ⟨_, rfl⟩
    rw [hV] at hb0 kb0
    have HV := Lib.hid hV
    have BB := Lib.hid hb0
    have Kx := Lib.hid kb0
    have HBx : Hid (w.heap.size ≤ w.heap.size) := Lib.hid (Nat.le_refl _)
    clear hV hb0 kb0
    go_enter Try.func74, Try.ntmps74
    go_upto_region 1 with fail
    rw [HV.out]
    clear HV
    obtain ⟨qx_0, qx_1, qx_2, qx_3, qx_4⟩ := Kx.out.c5
    have lx := Kx.out.lt
    go_wp2_with fail
    refine (withinTn_any wt 1 16 _).mono ?_
    rw [F0.out]
    rintro e U1 ⟨rfl, bU1⟩
    clear qx_0 qx_1 qx_2 qx_3 qx_4 lx
    replace BB := Lib.hid (below3 BB.out bU1)
    replace Kx := Lib.hid (Kx.out.below bU1 Kx.out.lt)
    clear bU1
    obtain ⟨qx_0, qx_1, qx_2, qx_3, qx_4⟩ := Kx.out.c5
    have lx := Kx.out.lt
    go_wp2
    go_ret
    exact ⟨rfl, BB.out⟩

/-- The place of the first one that may not be, or -1. -/
def BadTn (l : List Tn) (n : Nat) (w : World) (e : Ending) (w' : World) : Prop := ∃ r : Int, e = .returned (.int .i64 r) ∧ ((r = -1 ∧ ∀ j, j < n → okTn (tth l j)) ∨ ∃ k : Nat, k < n ∧ r = k ∧ ¬ okTn (tth l k)) ∧ Below w.heap.size w w'

set_option maxHeartbeats 2000000 in
theorem index_tn (A : Option Addr) (n c : Nat) (l : List Tn) (w : World) (hx : Tns w A n c l) :
    Calls Try.prog 78 #[.slice A n c, .func (.func 74) #[] #[]] w (BadTn l n w) := by
  have HX := Lib.hid hx
  have hnc := hx.2.1
  clear hx
  go_enter Try.func78, Try.ntmps78
  go_wp2
  go_loopw [8] (fun t wr => ∃ k : Nat, k ≤ n ∧ t = .int .i64 k ∧ Hid (Below w.heap.size w wr ∧ ∀ j, j < k → okTn (tth l j))) (fun t _ => n - (intOf t).toNat)
  case atStart => exact ⟨0, Nat.zero_le _, rfl, Lib.hid ⟨Below.refl _ _, fun i hi => by omega⟩⟩
  case round =>
    rename World => wr
    obtain ⟨k, hk, rfl, OK⟩ := hrel
    by_cases hkn : k < n
    · obtain ⟨bL, oL, rfl, hbL, c0, c1, c2, c3, c4⟩ := (HX.out.below OK.out.1).at_ hkn
      have HC := Lib.hid (fun U => notBe_any (tth l k) U)
      by_cases he : okTn (tth l k)
      · have HD := Lib.hid (decide_eq_true he)
        have HN : Hid (∀ j, j < k + 1 → okTn (tth l j)) := Lib.hid (fun j hj => by
          rcases Nat.lt_or_ge j k with h | h
          · exact OK.out.2 j h
          · obtain rfl : j = k := by omega
            exact he)
        clear he
        generalize tth l k = x at c0 c1 c2 c3 c4 HC HD
        unfold tnc at HC
        go_wp2_with fail
        refine (HC.out _).mono ?_
        rw [HD.out]
        rintro e w1 ⟨rfl, b1⟩
        have HR : Hid (Below w.heap.size w w1 ∧ ∀ j, j < k + 1 → okTn (tth l j)) := Lib.hid ⟨below3 OK.out.1 b1, HN.out⟩
        clear b1 OK c0 c1 c2 c3 c4
        go_wp2
        go_roundw
        case rel => exact ⟨k + 1, by omega, by go_num, HR⟩
        case measure => simp [intOf]; omega
      · have HD := Lib.hid (decide_eq_false he)
        have HE := Lib.hid he
        clear he
        generalize hxx : tth l k = x at c0 c1 c2 c3 c4 HC HD
        clear hxx
        unfold tnc at HC
        go_wp2_with fail
        refine (HC.out _).mono ?_
        rw [HD.out]
        rintro e w1 ⟨rfl, b1⟩
        have HB := Lib.hid (below3 OK.out.1 b1)
        clear b1 c0 c1 c2 c3 c4
        go_wp2
        go_ret
        exact ⟨k, rfl, .inr ⟨k, hkn, rfl, HE.out⟩, HB.out⟩
    · obtain rfl : n = k := by omega
      go_wp2
      go_ret
      exact ⟨-1, rfl, .inl ⟨rfl, OK.out.2⟩, OK.out.1⟩

theorem contains_tn (A : Option Addr) (n c : Nat) (l : List Tn) (w : World) (hx : Tns w A n c l) :
    Calls Try.prog 73 #[.slice A n c, .func (.func 74) #[] #[]] w (RetB (.bool (decide (∃ j, j < n ∧ ¬ okTn (tth l j)))) w) := by
  go_enter Try.func73, Try.ntmps73
  go_wp2_with fail
  refine (index_tn A n c l w hx).mono ?_
  rintro e w1 ⟨r, rfl, hr, hb1⟩
  have HR := Lib.hid hr
  have HB := Lib.hid hb1
  clear hr hb1
  go_wp2
  go_ret
  refine ⟨congrArg _ (congrArg _ (decide_eq_decide.2 ⟨fun h => ?_, fun h => ?_⟩)), HB.out⟩
  · rcases HR.out with ⟨h1, _⟩ | ⟨k, hk, _, h2⟩
    · omega
    · exact ⟨k, hk, h2⟩
  · rcases HR.out with ⟨_, h1⟩ | ⟨k, hk, h1, h2⟩
    · obtain ⟨j, hj, hn⟩ := h
      exact absurd (h1 j hj) hn
    · omega

set_option maxHeartbeats 1000000 in
theorem pchk_any (A : Option Addr) (n c : Nat) (l : List Tn) (w : World) (hx : Tns w A n c l) :
    Calls Try.prog 63 #[.slice A n c] w (RetB (.int .i64 (chkLn l)) w) := by
  have HX := Lib.hid hx
  have LX := Lib.hid hx.1
  have hnc := hx.2.1
  clear hx
  by_cases h0 : 1 ≤ (n : Int) ∧ (n : Int) ≤ 16
  · have F0 := Lib.hid (decide_eq_true h0)
    by_cases h1 : ∃ j, j < n ∧ ¬ okTn (tth l j)
    · have F1 := Lib.hid (decide_eq_true h1)
      rw [chkLn_no (l := l) (fun q => by obtain ⟨j, hj, hn⟩ := h1; exact hn (q.2 j (by rw [LX.out]; exact hj)))]
      clear h0 h1
      go_enter Try.func63, Try.ntmps63
      go_wp2_with fail
      refine (soMany_any _ _).mono ?_
      rw [F0.out]
      rintro e w1 ⟨rfl, b1⟩
      have B1 := Lib.hid b1
      clear b1
      go_wp2_with fail
      refine (contains_tn A n c l _ (HX.out.below B1.out)).mono ?_
      rw [F1.out]
      rintro e w2 ⟨rfl, b2⟩
      have B2 := Lib.hid (below3 B1.out b2)
      clear b2
      go_wp2
      go_ret
      exact ⟨rfl, B2.out⟩
    · have F1 := Lib.hid (decide_eq_false h1)
      rw [chkLn_yes (l := l) ⟨by rw [LX.out]; omega, fun j hj => by refine Classical.byContradiction fun hn => h1 ⟨j, by rw [← LX.out]; exact hj, hn⟩⟩]
      clear h0 h1
      go_enter Try.func63, Try.ntmps63
      go_wp2_with fail
      refine (soMany_any _ _).mono ?_
      rw [F0.out]
      rintro e w1 ⟨rfl, b1⟩
      have B1 := Lib.hid b1
      clear b1
      go_wp2_with fail
      refine (contains_tn A n c l _ (HX.out.below B1.out)).mono ?_
      rw [F1.out]
      rintro e w2 ⟨rfl, b2⟩
      have B2 := Lib.hid (below3 B1.out b2)
      clear b2
      go_wp2
      go_ret
      exact ⟨rfl, B2.out⟩
  · have F0 := Lib.hid (decide_eq_false h0)
    rw [chkLn_no (l := l) (fun q => h0 (by have := q.1; rw [LX.out] at this; omega))]
    clear h0
    go_enter Try.func63, Try.ntmps63
    go_wp2_with fail
    refine (soMany_any _ _).mono ?_
    rw [F0.out]
    rintro e w1 ⟨rfl, b1⟩
    have B1 := Lib.hid b1
    clear b1
    go_wp2
    go_ret
    exact ⟨rfl, B1.out⟩

end Go.Proofs.Ytpfnoohcilefhaa

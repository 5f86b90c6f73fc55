/-
  The document's answer of layer 2: the contract of MulDiv, bit by bit.
-/
import Derived.Test.YtaaffpeppdinhaaRefs
import Derived.Test.YtaaffpeppdinhaaMulDiv
import Derived.BigFrame
namespace Go.Proofs.Ytaaffpeppdinhaa
open Go.RowKit

/-- The greatest number of 63 bits that is no more. -/
def top63 (n : Int) : Int := if n ≤ 9223372036854775807 then n else 9223372036854775807

/-- Its bits from k on. -/
def bitsFrom (n : Int) (k : Nat) : Int := top63 n / 2 ^ k * 2 ^ k

theorem bits_top {n : Int} (h : 0 ≤ n) : bitsFrom n 63 = 0 ∧ bitsFrom n 0 = top63 n ∧ 0 ≤ top63 n ∧ top63 n ≤ 9223372036854775807 ∧ top63 n ≤ n := by
  have h1 : 0 ≤ top63 n ∧ top63 n ≤ 9223372036854775807 ∧ top63 n ≤ n := by unfold top63; split <;> omega
  refine ⟨?_, ?_, h1⟩
  · unfold bitsFrom; omega
  · unfold bitsFrom; simp

/-- One bit more. -/
theorem bits_step {n : Int} {t : Nat} (h : 0 ≤ n) (ht : t < 63) : 0 < (2 : Int) ^ t ∧ (2 : Int) ^ t ≤ 4611686018427387904 ∧ 0 ≤ bitsFrom n (t + 1) ∧ bitsFrom n (t + 1) + 2 ^ t ≤ 9223372036854775807 ∧
    bitsFrom n t = if bitsFrom n (t + 1) + 2 ^ t ≤ n then bitsFrom n (t + 1) + 2 ^ t else bitsFrom n (t + 1) := by
  obtain ⟨-, -, b1, b2, b3⟩ := bits_top h
  have hp : 0 < (2 : Int) ^ t := Int.pow_pos (by omega)
  have e63 : (2 : Int) ^ t * 2 ^ (63 - t) = 9223372036854775808 := by rw [← Int.pow_add, show t + (63 - t) = 63 by omega]; rfl
  have e62 : (2 : Int) ^ (63 - t) = 2 ^ (62 - t) * 2 := by rw [show 63 - t = (62 - t) + 1 by omega, Int.pow_succ]
  have hr : 0 < (2 : Int) ^ (62 - t) := Int.pow_pos (by omega)
  have eb : ∀ k, bitsFrom n k = top63 n / 2 ^ k * 2 ^ k := fun k => rfl
  rw [eb, eb, Int.pow_succ]
  -- n against top63 n: the same for numbers of 63 bits
  have hn : ∀ z : Int, z ≤ 9223372036854775807 → (z ≤ n ↔ z ≤ top63 n) := fun z hz => by unfold top63; split <;> omega
  generalize top63 n = m at *
  generalize (2 : Int) ^ t = B at *
  generalize (2 : Int) ^ (62 - t) = R at *
  rw [e62] at e63
  have q1 := Int.mul_ediv_add_emod m B
  have q2 := Int.emod_nonneg m (b := B) (by omega)
  have q3 := Int.emod_lt_of_pos m hp
  have hd : m / (B * 2) = m / B / 2 := (Int.ediv_ediv_of_nonneg (by omega)).symm
  rw [hd]
  have hu0 : 0 ≤ m / B := Int.ediv_nonneg b1 (by omega)
  have hu1 : m / B < R * 2 := Int.ediv_lt_of_lt_mul hp (by rw [Int.mul_comm]; omega)
  generalize m / B = u at *
  -- u = 2 (u / 2) + u % 2
  have e1 : u / 2 * (B * 2) = B * (u - u % 2) := by
    have : u - u % 2 = u / 2 * 2 := by omega
    rw [this, Int.mul_comm B 2, ← Int.mul_assoc, Int.mul_comm B]
  have hB : B ≤ B * R := by have := Int.mul_le_mul_of_nonneg_left (a := 1) (b := R) (c := B) (by omega) (by omega); omega
  have e63' : B * R * 2 = 9223372036854775808 := by rw [Int.mul_assoc]; exact e63
  have hle : B * (u - u % 2 + 1) ≤ B * (R * 2 - 1) := Int.mul_le_mul_of_nonneg_left (by omega) (by omega)
  have hnn : 0 ≤ B * (u - u % 2) := Int.mul_nonneg (by omega) (by omega)
  rw [Int.mul_sub, Int.mul_one, e63, Int.mul_add, Int.mul_one] at hle
  refine ⟨hp, by omega, by omega, by omega, ?_⟩
  rw [e1, Int.mul_comm u B]
  by_cases hodd : u % 2 = 1
  · have e2 : B * (u - u % 2) + B = B * u := by rw [hodd, Int.mul_sub]; omega
    rw [if_pos ((hn _ (by omega)).2 (by omega)), e2]
  · have e0 : u % 2 = 0 := by omega
    rw [e0, Int.sub_zero, if_neg (fun hh => by have := (hn _ (by rw [e0, Int.sub_zero] at hle; omega)).1 hh; omega)]

/-- The number lies in its block. -/
def NumI (w wr : World) (g : Nat) (c : Array Value) : Prop := Bk wr g 44 c ∧ w.heap.size ≤ g ∧ Below w.heap.size w wr

theorem moves_if {ops : Array Oper} {S : World → Prop} {o : Oper} {a : Act} (hw : Region.wanted o (yielded ops a.tmps) = true) (x : Operand) (ho : o.op = .move x) {v : Value} (hx : a.eval x = v) : YieldsIf Try.prog ops S o v a :=
  .inl ⟨hw, fun w _ => by rw [← hx]; exact BigFrame.run_move x ho w⟩

theorem NumI.keep {w wr w' : World} {g : Nat} {c : Array Value} (h : NumI w wr g c) (hb : Below wr.heap.size wr w') : NumI w w' g c :=
  ⟨h.1.below hb h.1.lt, h.2.1, below3 h.2.2 hb⟩

theorem big_sum {q c : Int} (hq : Fit q) (hc : Fit c) : big (q * c + c) ≤ 85070591730234615875067023894796828672 := by
  have h1 := big_mul hq hc
  have h2 := big_fit hc
  unfold big at *
  omega

set_option maxHeartbeats 4000000 in
set_option maxRecDepth 100000 in
theorem rmuldiv_yes (a b c : Int) (w : World) (ha : Fit a) (hb : Fit b) (hc : Fit c) (h1 : 0 ≤ a) (h2 : 0 ≤ b) (h3 : 1 ≤ c) :
    Calls Try.prog 19 #[.int .i64 a, .int .i64 b, .int .i64 c] w (RetB (.tuple #[.int .i64 (tz (a * b / c)), .int .i64 (te (a * b / c))]) w) := by
  have N0 := Lib.hid (Int.ediv_nonneg (Int.mul_nonneg h1 h2) (show 0 ≤ c by omega))
  have hm := Int.mul_ediv_add_emod (a * b) c
  have hm1 := Int.emod_nonneg (a * b) (b := c) (by omega)
  have hm2 := Int.emod_lt_of_pos (a * b) (b := c) (by omega)
  have hm3 : c * (a * b / c) = a * b / c * c := Int.mul_comm _ _
  have M2 := Lib.hid (show a * b < a * b / c * c + c by omega)
  have M3 := Lib.hid (fun z (hz : z ≤ a * b / c) => show z * c ≤ a * b by have := Int.mul_le_mul_of_nonneg_right hz (show 0 ≤ c by omega); omega)
  have M4 := Lib.hid (fun z (hz : a * b / c + 1 ≤ z) => show a * b < z * c by have := Int.mul_le_mul_of_nonneg_right hz (show 0 ≤ c by omega); rw [Int.add_mul] at this; omega)
  clear hm hm1 hm2 hm3
  have HA := Lib.hid ha
  have HB := Lib.hid hb
  have HC := Lib.hid hc
  clear ha hb hc
  go_enter Try.func19, Try.ntmps19
  go_wp2_with fail
  refine (of_any a _ HA.out).mono ?_
  rintro e w1 ⟨c1, rfl, g1, hb1⟩
  have G1 := Lib.hid g1
  have BB1 := Lib.hid hb1
  clear g1 hb1
  go_wp2_with fail
  refine (of_any b _ HB.out).mono ?_
  rintro e w2 ⟨c2, rfl, g2, hb2⟩
  have G2 := Lib.hid g2
  have BB2 := Lib.hid (below3 BB1.out hb2)
  clear g2 hb2
  go_wp2_with fail
  refine (mul_big c1 c2 a b _ G1.out G2.out (small8 (big_fit HA.out)) (small8 (big_fit HB.out))).mono ?_
  rintro e w3 ⟨c3, rfl, g3, hb3⟩
  have G3 := Lib.hid g3
  have BB3 := Lib.hid (below3 BB2.out hb3)
  have HS3 := Lib.hid g3.size
  have HA3 := Lib.hid g3.all
  clear g3 hb3
  go_wp2_with (first | (refine wpl_store rfl (.tmp 8) (.tmp 26) rfl _ rfl rfl (Bk.new _ _ _) (by rfl) HS3.out HA3.out ?_; rw [World.setRow_alloc_new]) | fail)
  have NI := Lib.hid (show NumI w (w3.alloc (.cells c3 44)) w3.heap.size c3 from ⟨Bk.new _ _ _, BB3.out.size, below_alloc BB3.out _⟩)
  generalize w3.alloc _ = W at NI ⊢
  generalize w3.heap.size = g at NI ⊢
  go_loopg [9, 10] 63 (fun k y x wr => k ≤ 63 ∧ x = .int .i64 ((k : Int) - 1) ∧ y = .int .i64 (bitsFrom (a * b / c) k) ∧ NumI w wr g c3)
  case atStart => exact ⟨by omega, rfl, by rw [(bits_top N0.out).1], NI.out⟩
  case round =>
    clear NI
    obtain ⟨hj, rfl, rfl, hn⟩ := hrel
    obtain ⟨j, hjk⟩ : ∃ j, j = gk := ⟨_, rfl⟩
    subst hjk
    have NI := Lib.hid hn
    clear hn
    by_cases hp : j = 0
    · subst hp
      obtain ⟨-, t1, t2, t3, t4⟩ := bits_top N0.out
      generalize hq : bitsFrom (a * b / c) 0 = q
      rw [t1] at hq
      rw [hq] at t2 t3 t4
      have FT := Lib.hid (show Fit q from ⟨by omega, t3⟩)
      have HQ := Lib.hid hq
      clear hq t1
      by_cases hf : Fit (a * b / c)
      · have eq : q = a * b / c := by rw [← HQ.out]; unfold top63; rw [if_pos hf.2]
        have HL := Lib.hid (show decide (a * b < q * c + c) = true by rw [decide_eq_true_eq, eq]; have := M2.out; omega)
        have HR := Lib.hid (show tz (a * b / c) = q by rw [eq]; exact if_pos hf)
        have HE := Lib.hid (show te (a * b / c) = 0 from if_pos hf)
        clear eq hf t2 t3 t4
        go_upto_region 11 with fail
        refine wp_region_held (S := fun U => NumI w U g c3) (by kernel_rfl) ?_
        change wpAnyH _ _ _ _ _ _ _ _ (World.drew _)
        have s0 : NumI w wr.drew g c3 := ⟨NI.out.1.drew, NI.out.2.1, NI.out.2.2.drew⟩
        generalize wr.drew = v0 at s0 ⊢
        refine wpAnyH_take (i := 0) (v := .agg c3) rfl (by kernel_rfl) (by kernel_rfl) (by kernel_rfl) (fun _ _ _ h => h) (loads_big rfl (.tmp 8) rfl _ rfl (fun _ h => h.1) HS3.out) s0 ?_
        refine wpAnyH_take (i := 1) (v := .int .i64 q) rfl (by kernel_rfl) (by kernel_rfl) (by kernel_rfl) (fun _ _ _ h => h) (moves_if rfl (.tmp 9) rfl rfl) s0 ?_
        refine wpAnyH_take (i := 3) (v := .int .i64 c) rfl (by kernel_rfl) (by kernel_rfl) (by kernel_rfl) (fun _ _ _ h => h) (moves_if rfl (.tmp 2) rfl rfl) s0 ?_
        refine wpAnyH_take (i := 6) (v := .int .i64 c) rfl (by kernel_rfl) (by kernel_rfl) (by kernel_rfl) (fun _ _ _ h => h) (moves_if rfl (.tmp 2) rfl rfl) s0 ?_
        refine wpAnyH_all (rs := [2]) (by kernel_rfl) (by simp) ?_
        intro i hi
        simp only [List.mem_cons, List.not_mem_nil, or_false] at hi
        subst hi
        unfold wpOp
        go_simp
        left
        refine (of_any q _ FT.out).mono ?_
        rintro e v1 ⟨d1, rfl, gg1, hb1⟩
        have D1 := Lib.hid gg1
        have s1 := s0.keep hb1
        clear gg1 hb1
        refine ⟨s1, ?_⟩
        refine wpAnyH_all (rs := [4]) (by kernel_rfl) (by simp) ?_
        intro i hi
        simp only [List.mem_cons, List.not_mem_nil, or_false] at hi
        subst hi
        unfold wpOp
        go_simp
        left
        refine (of_any c _ HC.out).mono ?_
        rintro e v2 ⟨d2, rfl, gg2, hb2⟩
        have D2 := Lib.hid gg2
        have s2 := s1.keep hb2
        clear gg2 hb2
        refine ⟨s2, ?_⟩
        refine wpAnyH_all (rs := [5]) (by kernel_rfl) (by simp) ?_
        intro i hi
        simp only [List.mem_cons, List.not_mem_nil, or_false] at hi
        subst hi
        unfold wpOp
        go_simp
        left
        refine (mul_big d1 d2 q c _ D1.out D2.out (small8 (big_fit FT.out)) (small8 (big_fit HC.out))).mono ?_
        rintro e v3 ⟨d3, rfl, gg3, hb3⟩
        have D3 := Lib.hid gg3
        have s3 := s2.keep hb3
        clear gg3 hb3
        refine ⟨s3, ?_⟩
        refine wpAnyH_all (rs := [7]) (by kernel_rfl) (by simp) ?_
        intro i hi
        simp only [List.mem_cons, List.not_mem_nil, or_false] at hi
        subst hi
        unfold wpOp
        go_simp
        left
        refine (of_any c _ HC.out).mono ?_
        rintro e v4 ⟨d4, rfl, gg4, hb4⟩
        have D4 := Lib.hid gg4
        have s4 := s3.keep hb4
        clear gg4 hb4
        refine ⟨s4, ?_⟩
        refine wpAnyH_all (rs := [8]) (by kernel_rfl) (by simp) ?_
        intro i hi
        simp only [List.mem_cons, List.not_mem_nil, or_false] at hi
        subst hi
        unfold wpOp
        go_simp
        left
        refine (add_big d3 d4 (q * c) c _ D3.out D4.out (by have := big_mul FT.out HC.out; have := big_fit HC.out; omega)).mono ?_
        rintro e v5 ⟨d5, rfl, gg5, hb5⟩
        have D5 := Lib.hid gg5
        have s5 := s4.keep hb5
        clear gg5 hb5
        refine ⟨s5, ?_⟩
        refine wpAnyH_all (rs := [9]) (by kernel_rfl) (by simp) ?_
        intro i hi
        simp only [List.mem_cons, List.not_mem_nil, or_false] at hi
        subst hi
        unfold wpOp
        go_simp
        left
        refine (less_big c3 d5 (a * b) (q * c + c) _ G3.out D5.out (by have := big_mul HA.out HB.out; have := big_sum FT.out HC.out; omega)).mono ?_
        rw [HL.out]
        rintro e v6 ⟨rfl, hb6⟩
        have s6 := s5.keep hb6
        clear hb6
        refine ⟨s6, ?_⟩
        refine wpAnyH_all (rs := [10]) (by kernel_rfl) (by simp) ?_
        intro i hi
        simp only [List.mem_cons, List.not_mem_nil, or_false] at hi
        subst hi
        unfold wpOp
        go_simp
        left
        refine ⟨by kernel_rfl, ?_⟩
        have S6 := Lib.hid s6
        clear s0 s1 s2 s3 s4 s5 s6 NI
        go_wp2
        go_ret2
        exact RetB.of (by rw [HR.out, HE.out]; rfl) S6.out.2.2
      · have eq : q = 9223372036854775807 := by rw [← HQ.out]; unfold top63; unfold Fit at hf; have := N0.out; rw [if_neg (by omega)]
        have HL := Lib.hid (show decide (a * b < q * c + c) = false by rw [decide_eq_false_iff_not]; have h := M3.out (q + 1) (by unfold Fit at hf; have := N0.out; omega); rw [Int.add_mul] at h; omega)
        have HR := Lib.hid (show tz (a * b / c) = 0 from if_neg hf)
        have HE := Lib.hid (show te (a * b / c) = 4 from if_neg hf)
        clear eq hf t2 t3 t4
        go_upto_region 11 with fail
        refine wp_region_held (S := fun U => NumI w U g c3) (by kernel_rfl) ?_
        change wpAnyH _ _ _ _ _ _ _ _ (World.drew _)
        have s0 : NumI w wr.drew g c3 := ⟨NI.out.1.drew, NI.out.2.1, NI.out.2.2.drew⟩
        generalize wr.drew = v0 at s0 ⊢
        refine wpAnyH_take (i := 0) (v := .agg c3) rfl (by kernel_rfl) (by kernel_rfl) (by kernel_rfl) (fun _ _ _ h => h) (loads_big rfl (.tmp 8) rfl _ rfl (fun _ h => h.1) HS3.out) s0 ?_
        refine wpAnyH_take (i := 1) (v := .int .i64 q) rfl (by kernel_rfl) (by kernel_rfl) (by kernel_rfl) (fun _ _ _ h => h) (moves_if rfl (.tmp 9) rfl rfl) s0 ?_
        refine wpAnyH_take (i := 3) (v := .int .i64 c) rfl (by kernel_rfl) (by kernel_rfl) (by kernel_rfl) (fun _ _ _ h => h) (moves_if rfl (.tmp 2) rfl rfl) s0 ?_
        refine wpAnyH_take (i := 6) (v := .int .i64 c) rfl (by kernel_rfl) (by kernel_rfl) (by kernel_rfl) (fun _ _ _ h => h) (moves_if rfl (.tmp 2) rfl rfl) s0 ?_
        refine wpAnyH_all (rs := [2]) (by kernel_rfl) (by simp) ?_
        intro i hi
        simp only [List.mem_cons, List.not_mem_nil, or_false] at hi
        subst hi
        unfold wpOp
        go_simp
        left
        refine (of_any q _ FT.out).mono ?_
        rintro e v1 ⟨d1, rfl, gg1, hb1⟩
        have D1 := Lib.hid gg1
        have s1 := s0.keep hb1
        clear gg1 hb1
        refine ⟨s1, ?_⟩
        refine wpAnyH_all (rs := [4]) (by kernel_rfl) (by simp) ?_
        intro i hi
        simp only [List.mem_cons, List.not_mem_nil, or_false] at hi
        subst hi
        unfold wpOp
        go_simp
        left
        refine (of_any c _ HC.out).mono ?_
        rintro e v2 ⟨d2, rfl, gg2, hb2⟩
        have D2 := Lib.hid gg2
        have s2 := s1.keep hb2
        clear gg2 hb2
        refine ⟨s2, ?_⟩
        refine wpAnyH_all (rs := [5]) (by kernel_rfl) (by simp) ?_
        intro i hi
        simp only [List.mem_cons, List.not_mem_nil, or_false] at hi
        subst hi
        unfold wpOp
        go_simp
        left
        refine (mul_big d1 d2 q c _ D1.out D2.out (small8 (big_fit FT.out)) (small8 (big_fit HC.out))).mono ?_
        rintro e v3 ⟨d3, rfl, gg3, hb3⟩
        have D3 := Lib.hid gg3
        have s3 := s2.keep hb3
        clear gg3 hb3
        refine ⟨s3, ?_⟩
        refine wpAnyH_all (rs := [7]) (by kernel_rfl) (by simp) ?_
        intro i hi
        simp only [List.mem_cons, List.not_mem_nil, or_false] at hi
        subst hi
        unfold wpOp
        go_simp
        left
        refine (of_any c _ HC.out).mono ?_
        rintro e v4 ⟨d4, rfl, gg4, hb4⟩
        have D4 := Lib.hid gg4
        have s4 := s3.keep hb4
        clear gg4 hb4
        refine ⟨s4, ?_⟩
        refine wpAnyH_all (rs := [8]) (by kernel_rfl) (by simp) ?_
        intro i hi
        simp only [List.mem_cons, List.not_mem_nil, or_false] at hi
        subst hi
        unfold wpOp
        go_simp
        left
        refine (add_big d3 d4 (q * c) c _ D3.out D4.out (by have := big_mul FT.out HC.out; have := big_fit HC.out; omega)).mono ?_
        rintro e v5 ⟨d5, rfl, gg5, hb5⟩
        have D5 := Lib.hid gg5
        have s5 := s4.keep hb5
        clear gg5 hb5
        refine ⟨s5, ?_⟩
        refine wpAnyH_all (rs := [9]) (by kernel_rfl) (by simp) ?_
        intro i hi
        simp only [List.mem_cons, List.not_mem_nil, or_false] at hi
        subst hi
        unfold wpOp
        go_simp
        left
        refine (less_big c3 d5 (a * b) (q * c + c) _ G3.out D5.out (by have := big_mul HA.out HB.out; have := big_sum FT.out HC.out; omega)).mono ?_
        rw [HL.out]
        rintro e v6 ⟨rfl, hb6⟩
        have s6 := s5.keep hb6
        clear hb6
        refine ⟨s6, ?_⟩
        refine wpAnyH_all (rs := [10]) (by kernel_rfl) (by simp) ?_
        intro i hi
        simp only [List.mem_cons, List.not_mem_nil, or_false] at hi
        subst hi
        unfold wpOp
        go_simp
        left
        refine ⟨by kernel_rfl, ?_⟩
        have S6 := Lib.hid s6
        clear s0 s1 s2 s3 s4 s5 s6 NI
        go_wp2
        go_ret2
        exact RetB.of (by rw [HR.out, HE.out]; rfl) S6.out.2.2
    · obtain ⟨t, rfl⟩ : ∃ t, j = t + 1 := ⟨j - 1, by omega⟩
      have ej : ((t + 1 : Nat) : Int) - 1 = (t : Int) := by omega
      rw [ej]
      clear ej
      obtain ⟨p1, p2, p3, p4, p5⟩ := bits_step N0.out (t := t) (by omega)
      have HN := Lib.hid p5
      generalize bitsFrom (a * b / c) (t + 1) = q at *
      have e1 : wrap64 (2 ^ t) = 2 ^ t := wrap64_id (by omega) (by omega)
      obtain ⟨tr, htr⟩ : ∃ tr, tr = q + 2 ^ t := ⟨_, rfl⟩
      have e2 : wrap64 (q + 2 ^ t) = tr := by rw [htr]; exact wrap64_id (by omega) (by omega)
      have FT := Lib.hid (show Fit tr from ⟨by omega, by omega⟩)
      rw [← htr] at HN
      clear p1 p2 p3 p4 p5 htr
      have b1 : (t : Int) < 63 := by omega
      by_cases hle : tr ≤ a * b / c
      · have HL := Lib.hid (show decide (a * b < tr * c) = false by rw [decide_eq_false_iff_not]; have := M3.out tr hle; omega)
        have HQ := Lib.hid (HN.out.trans (if_pos hle))
        clear hle
        go_upto_region 9 with fail
        rw [e2]
        refine wp_region_held (S := fun U => NumI w U g c3) (by kernel_rfl) ?_
        change wpAnyH _ _ _ _ _ _ _ _ (World.drew _)
        have s0 : NumI w wr.drew g c3 := ⟨NI.out.1.drew, NI.out.2.1, NI.out.2.2.drew⟩
        generalize wr.drew = v0 at s0 ⊢
        refine wpAnyH_take (i := 0) (v := .agg c3) rfl (by kernel_rfl) (by kernel_rfl) (by kernel_rfl) (fun _ _ _ h => h) (loads_big rfl (.tmp 8) rfl _ rfl (fun _ h => h.1) HS3.out) s0 ?_
        refine wpAnyH_take (i := 1) (v := .int .i64 tr) rfl (by kernel_rfl) (by kernel_rfl) (by kernel_rfl) (fun _ _ _ h => h) (moves_if rfl (.tmp 11) rfl rfl) s0 ?_
        refine wpAnyH_take (i := 3) (v := .int .i64 c) rfl (by kernel_rfl) (by kernel_rfl) (by kernel_rfl) (fun _ _ _ h => h) (moves_if rfl (.tmp 2) rfl rfl) s0 ?_
        refine wpAnyH_all (rs := [2]) (by kernel_rfl) (by simp) ?_
        intro i hi
        simp only [List.mem_cons, List.not_mem_nil, or_false] at hi
        subst hi
        unfold wpOp
        go_simp
        left
        refine (of_any tr _ FT.out).mono ?_
        rintro e v1 ⟨d1, rfl, gg1, hb1⟩
        have D1 := Lib.hid gg1
        have s1 := s0.keep hb1
        clear gg1 hb1
        refine ⟨s1, ?_⟩
        refine wpAnyH_all (rs := [4]) (by kernel_rfl) (by simp) ?_
        intro i hi
        simp only [List.mem_cons, List.not_mem_nil, or_false] at hi
        subst hi
        unfold wpOp
        go_simp
        left
        refine (of_any c _ HC.out).mono ?_
        rintro e v2 ⟨d2, rfl, gg2, hb2⟩
        have D2 := Lib.hid gg2
        have s2 := s1.keep hb2
        clear gg2 hb2
        refine ⟨s2, ?_⟩
        refine wpAnyH_all (rs := [5]) (by kernel_rfl) (by simp) ?_
        intro i hi
        simp only [List.mem_cons, List.not_mem_nil, or_false] at hi
        subst hi
        unfold wpOp
        go_simp
        left
        refine (mul_big d1 d2 tr c _ D1.out D2.out (small8 (big_fit FT.out)) (small8 (big_fit HC.out))).mono ?_
        rintro e v3 ⟨d3, rfl, gg3, hb3⟩
        have D3 := Lib.hid gg3
        have s3 := s2.keep hb3
        clear gg3 hb3
        refine ⟨s3, ?_⟩
        refine wpAnyH_all (rs := [6]) (by kernel_rfl) (by simp) ?_
        intro i hi
        simp only [List.mem_cons, List.not_mem_nil, or_false] at hi
        subst hi
        unfold wpOp
        go_simp
        left
        refine (less_big c3 d3 (a * b) (tr * c) _ G3.out D3.out (by have := big_mul HA.out HB.out; have := big_mul FT.out HC.out; omega)).mono ?_
        rw [HL.out]
        rintro e v4 ⟨rfl, hb4⟩
        have s4 := s3.keep hb4
        clear hb4
        refine ⟨s4, ?_⟩
        refine wpAnyH_all (rs := [7]) (by kernel_rfl) (by simp) ?_
        intro i hi
        simp only [List.mem_cons, List.not_mem_nil, or_false] at hi
        subst hi
        unfold wpOp
        go_simp
        left
        refine ⟨by kernel_rfl, ?_⟩
        have S4 := Lib.hid s4
        clear s0 s1 s2 s3 s4 NI
        go_wp2
        go_roundg t
        case measure => omega
        case rel => exact ⟨by omega, by go_num, by rw [HQ.out], S4.out⟩
      · have HL := Lib.hid (show decide (a * b < tr * c) = true by rw [decide_eq_true_eq]; exact M4.out tr (by omega))
        have HQ := Lib.hid (HN.out.trans (if_neg hle))
        clear hle
        go_upto_region 9 with fail
        rw [e2]
        refine wp_region_held (S := fun U => NumI w U g c3) (by kernel_rfl) ?_
        change wpAnyH _ _ _ _ _ _ _ _ (World.drew _)
        have s0 : NumI w wr.drew g c3 := ⟨NI.out.1.drew, NI.out.2.1, NI.out.2.2.drew⟩
        generalize wr.drew = v0 at s0 ⊢
        refine wpAnyH_take (i := 0) (v := .agg c3) rfl (by kernel_rfl) (by kernel_rfl) (by kernel_rfl) (fun _ _ _ h => h) (loads_big rfl (.tmp 8) rfl _ rfl (fun _ h => h.1) HS3.out) s0 ?_
        refine wpAnyH_take (i := 1) (v := .int .i64 tr) rfl (by kernel_rfl) (by kernel_rfl) (by kernel_rfl) (fun _ _ _ h => h) (moves_if rfl (.tmp 11) rfl rfl) s0 ?_
        refine wpAnyH_take (i := 3) (v := .int .i64 c) rfl (by kernel_rfl) (by kernel_rfl) (by kernel_rfl) (fun _ _ _ h => h) (moves_if rfl (.tmp 2) rfl rfl) s0 ?_
        refine wpAnyH_all (rs := [2]) (by kernel_rfl) (by simp) ?_
        intro i hi
        simp only [List.mem_cons, List.not_mem_nil, or_false] at hi
        subst hi
        unfold wpOp
        go_simp
        left
        refine (of_any tr _ FT.out).mono ?_
        rintro e v1 ⟨d1, rfl, gg1, hb1⟩
        have D1 := Lib.hid gg1
        have s1 := s0.keep hb1
        clear gg1 hb1
        refine ⟨s1, ?_⟩
        refine wpAnyH_all (rs := [4]) (by kernel_rfl) (by simp) ?_
        intro i hi
        simp only [List.mem_cons, List.not_mem_nil, or_false] at hi
        subst hi
        unfold wpOp
        go_simp
        left
        refine (of_any c _ HC.out).mono ?_
        rintro e v2 ⟨d2, rfl, gg2, hb2⟩
        have D2 := Lib.hid gg2
        have s2 := s1.keep hb2
        clear gg2 hb2
        refine ⟨s2, ?_⟩
        refine wpAnyH_all (rs := [5]) (by kernel_rfl) (by simp) ?_
        intro i hi
        simp only [List.mem_cons, List.not_mem_nil, or_false] at hi
        subst hi
        unfold wpOp
        go_simp
        left
        refine (mul_big d1 d2 tr c _ D1.out D2.out (small8 (big_fit FT.out)) (small8 (big_fit HC.out))).mono ?_
        rintro e v3 ⟨d3, rfl, gg3, hb3⟩
        have D3 := Lib.hid gg3
        have s3 := s2.keep hb3
        clear gg3 hb3
        refine ⟨s3, ?_⟩
        refine wpAnyH_all (rs := [6]) (by kernel_rfl) (by simp) ?_
        intro i hi
        simp only [List.mem_cons, List.not_mem_nil, or_false] at hi
        subst hi
        unfold wpOp
        go_simp
        left
        refine (less_big c3 d3 (a * b) (tr * c) _ G3.out D3.out (by have := big_mul HA.out HB.out; have := big_mul FT.out HC.out; omega)).mono ?_
        rw [HL.out]
        rintro e v4 ⟨rfl, hb4⟩
        have s4 := s3.keep hb4
        clear hb4
        refine ⟨s4, ?_⟩
        refine wpAnyH_all (rs := [7]) (by kernel_rfl) (by simp) ?_
        intro i hi
        simp only [List.mem_cons, List.not_mem_nil, or_false] at hi
        subst hi
        unfold wpOp
        go_simp
        left
        refine ⟨by kernel_rfl, ?_⟩
        have S4 := Lib.hid s4
        clear s0 s1 s2 s3 s4 NI
        go_wp2
        go_roundg t
        case measure => omega
        case rel => exact ⟨by omega, by go_num, by rw [HQ.out], S4.out⟩

theorem rmuldiv_no (a b c : Int) (w : World) (h : a < 0 ∨ b < 0 ∨ c < 1) :
    Calls Try.prog 19 #[.int .i64 a, .int .i64 b, .int .i64 c] w (RetB (.tuple #[.int .i64 0, .int .i64 1]) w) := by
  by_cases h1 : a < 0
  · clear h
    go_enter Try.func19, Try.ntmps19
    go_wp2
    go_ret2
    exact RetB.of rfl (Below.refl _ _)
  · by_cases h2 : b < 0
    · clear h
      go_enter Try.func19, Try.ntmps19
      go_wp2
      go_ret2
      exact RetB.of rfl (Below.refl _ _)
    · have h3 : c < 1 := by omega
      clear h
      go_enter Try.func19, Try.ntmps19
      go_wp2
      go_ret2
      exact RetB.of rfl (Below.refl _ _)

end Go.Proofs.Ytaaffpeppdinhaa

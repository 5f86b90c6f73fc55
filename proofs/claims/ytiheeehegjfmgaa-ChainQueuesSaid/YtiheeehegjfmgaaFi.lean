/-
  The contract of 'filled': so many times the same number, in memory of the call's own (slices.Repeat of a slice of one).
-/
import Derived.Test.YtiheeehegjfmgaaCp
import Derived.Laws.CopyRow
import Derived.Laws.Bits64b
namespace Go.Proofs.Ytiheeehegjfmgaa
open Go.RowKit

theorem maskN (a : Nat) (ha : a < 4294967296) : bits .and .u64 (a : Int) 4294967295 = (a : Int) := by
  have h := bits_and_u64_nat a 4294967295 (by omega) (by omega)
  have e : a &&& 4294967295 = a % 4294967296 := Nat.and_two_pow_sub_one_eq_mod a 32
  rw [e, Nat.mod_eq_of_lt ha] at h
  exact h

theorem mul64_one (n : Nat) (hn : n ≤ 1024) (w : World) : Calls Try.prog 52 #[.int .u64 1, .int .u64 n] w fun e w' => e = .returned (.tuple #[.int .u64 0, .int .u64 n]) ∧ w' = w := by
  have m1 : bits .and .u64 1 4294967295 = 1 := maskN 1 (by omega)
  have m2 : bits .and .u64 (n : Int) 4294967295 = (n : Int) := maskN n (by omega)
  have d2 : (n : Int) / 4294967296 = 0 := by omega
  have w2 : IntKind.u64.wrap (n : Int) = n := by rw [IntKind.wrap_u64]; omega
  go_enter Try.func52, Try.ntmps52
  go_wp2
  go_ret2
  have m0 : bits .and .u64 0 4294967295 = 0 := maskN 0 (by omega)
  have w0 : IntKind.u64.wrap 0 = 0 := by rw [IntKind.wrap_u64]; rfl
  simp [m0, w0]
theorem mul_one (n : Nat) (hn : n ≤ 1024) (w : World) : Calls Try.prog 50 #[.int .u64 1, .int .u64 n] w fun e w' => e = .returned (.tuple #[.int .u64 0, .int .u64 n]) ∧ w' = w := by
  go_enter Try.func50, Try.ntmps50
  go_wp2_with (go_at_call 52; refine (mul64_one n hn w).mono ?_; rintro e w' ⟨rfl, hw⟩; rw [hw])
  go_ret2
  exact ⟨rfl, rfl⟩

/-- The first k of n cells of a block hold x. -/
def Fl (w : World) (g n k : Nat) (x : Int) : Prop := ∃ cs, Bk w g 3 cs ∧ cs.size = n ∧ k ≤ n ∧ ∀ j, j < k → cs[j]? = some (.int .i64 x)
theorem Fl.cell {w : World} {g n k : Nat} {x : Int} (h : Fl w g n k x) {j : Nat} (hj : j < k) : w.cell? ⟨g, j, none⟩ = some (.int .i64 x) := by
  obtain ⟨cs, h1, h2, h3, h4⟩ := h
  rw [h1.cell, h4 j hj]
theorem Fl.drew {w : World} {g n k : Nat} {x : Int} (h : Fl w g n k x) : Fl w.drew g n k x := h

/-- copy onto the cells that are not filled yet. -/
theorem Fl.copy {w : World} {g n k : Nat} {x : Int} (h : Fl w g n k x) (b : Nat) (m c : Nat) (hb : ∀ j, j < m → w.cell? ⟨b, j, none⟩ = some (.int .i64 x)) (d : Nat) :
    ∃ w', (Builtin.copy_ #[22, 22] 3 #[.slice (some ⟨g, k, none⟩) (n - k) d, .slice (some ⟨b, 0, none⟩) m c]).run Try.prog w = .ok (.int .i64 ((Nat.min m (n - k) : Nat) : Int)) w' ∧ Fl w' g n (k + Nat.min m (n - k)) x ∧ (∃ c', w' = w.setRow g c') := by
  obtain ⟨cs, h1, h2, h3, h4⟩ := h
  have hlen : (List.replicate (Nat.min m (n - k)) (Value.int .i64 x)).length = Nat.min m (n - k) := by simp
  have hm1 : Nat.min m (n - k) ≤ m := Nat.min_le_left _ _
  have hm2 : Nat.min m (n - k) ≤ n - k := Nat.min_le_right _ _
  have hr := run_copy_row Try.prog w 22 22 3 3 g k (n - k) d ⟨b, 0, none⟩ m c cs 3 (List.replicate (Nat.min m (n - k)) (.int .i64 x)) Try.underlying22 (by kernel_rfl) h1 hlen
    (fun j v hv => by
      have hj : j < Nat.min m (n - k) := by
        have := (List.getElem?_eq_some_iff.1 hv).1
        rwa [hlen] at this
      rw [List.getElem?_replicate, if_pos hj] at hv
      injection hv with hv
      rw [← hv, Addr.add_lit, Nat.zero_add]
      exact hb j (by omega)) (by rw [hlen, h2]; omega) (fun v hv => by rw [(List.mem_replicate.1 hv).2]; rfl)
  rw [hlen] at hr
  refine ⟨_, hr, ⟨_, h1.row _, ?_, by omega, fun j hj => ?_⟩, _, rfl⟩
  · simp
    omega
  · simp only [List.getElem?_toArray]
    have hcl : cs.toList.length = n := by simpa using h2
    rcases Nat.lt_or_ge j k with a | a
    · rw [List.append_assoc, List.getElem?_append_left (by simp; omega), List.getElem?_take, if_pos a]
      simpa using h4 j a
    · rw [List.append_assoc, List.getElem?_append_right (by simp; omega), List.getElem?_append_left (by simp; omega), List.getElem?_replicate, if_pos (by simp; omega)]

theorem mkInts (n : Nat) (h : n ≤ 1024) (W : World) : (Instr.makeSlice 22 (.int .i64 (n : Int)) (.int .i64 (n : Int))).run Try.prog W = .ok (.slice (some ⟨W.heap.size, 0, none⟩) n n) (W.alloc (.cells (madeCells #[.int .i64 0] n) 3)) :=
  run_make_row' (P := Try.prog) 22 3 (.int .i64 0) 8 Try.underlying22 Try.intInfo rfl .i64 .i64 n (by omega) (by omega) W
theorem made_lie (w : World) (n : Nat) (x : Int) : Fl (w.alloc (.cells (madeCells #[.int .i64 0] n) 3)) w.heap.size n 0 x :=
  ⟨_, Bk.new _ _ _, by rw [← Array.length_toList, toList_madeCells_one]; simp, by omega, fun j hj => by omega⟩
/-- Filled whole. -/
theorem Fl.own {w : World} {g n base : Nat} {x : Int} (h : Fl w g n n x) (hb : base ≤ g) (hx : Fit x) (hn : n ≤ 1024) : OwnI 3 w base (some ⟨g, 0, none⟩) n (List.replicate n x) := by
  obtain ⟨cs, h1, h2, h3, h4⟩ := h
  refine ⟨by simp; omega, fun z hz => by rw [(List.mem_replicate.1 hz).2]; exact hx, by simp, .inr ⟨g, n, cs, by simp, hb, h1, by simp, by unfold maxLen; omega, by omega, ?_⟩⟩
  simp only [List.length_replicate, Nat.mul_one, List.map_replicate]
  refine List.ext_getElem? fun j => ?_
  rw [List.getElem?_take, List.getElem?_replicate]
  split
  · rename_i hj
    simpa using h4 j hj
  · rfl

theorem wpList_copy {P : Program} (w w' : World) {ops : Array Oper} {rest : List Oper} {o : Oper} {a : Act} {Q : Exit → Act → World → Prop} (hgd : o.guard = none) (s x : Operand) (t u : TypeId)
    (ho : o.op = .call { callee := .builtin .copy, args := #[s, x], argTypes := #[t, u] }) (v sv xv : Value) (hs : a.eval s = sv) (hx : a.eval x = xv) (hr : (Builtin.copy_ #[t, u] o.type #[sv, xv]).run P w = .ok v w')
    (h : wpList P ops Q rest (a.put o.dst v) w') : wpList P ops Q (o :: rest) a w := by
  refine wpList_plain hgd fun K hK => ?_
  unfold Oper.wp execOp
  simp only [ho, resolve, invoke, builtin, Sem.run_bind, Sem.run_pure, Result.andThen_ok, List.map_toArray, List.map_cons, List.map_nil, hs, hx, hr]
  exact hK _ _ h
theorem wpOp_copy {P : Program} {ops : Array Oper} {Q : Exit → Act → World → Prop} {i : Nat} {K : Act → World → Prop} {a : Act} {w w' : World} {o : Oper} (s x : Operand) (t u : TypeId) (v sv xv : Value) (hi : ops[i]? = some o) (hw : Region.wanted o (yielded ops a.tmps) = true)
    (ho : o.op = .call { callee := .builtin .copy, args := #[s, x], argTypes := #[t, u] }) (hs : a.eval s = sv) (hx : a.eval x = xv) (hr : (Builtin.copy_ #[t, u] o.type #[sv, xv]).run P w = .ok v w') (h : K (a.put o.dst v) w') : wpOp P ops Q i K a w := by
  unfold wpOp
  simp only [hi, hw, if_true]
  left
  unfold Oper.wp execOp
  simp only [ho, resolve, invoke, builtin, Sem.run_bind, Sem.run_pure, Result.andThen_ok, List.map_toArray, List.map_cons, List.map_nil, hs, hx, hr]
  exact h

/-- New numbers are handed back. -/
def NewIs (zs : List Int) (w : World) (e : Ending) (w' : World) : Prop :=
  ∃ A c, e = .returned (.slice A zs.length c) ∧ OwnI 3 w' w.heap.size A c zs ∧ Below w.heap.size w w'

set_option maxRecDepth 100000 in
set_option maxHeartbeats 2000000 in
theorem repeat_pos (x : Int) (hx : Fit x) (n b c : Nat) (h1 : 1 ≤ n) (hn : n ≤ 1024) (w : World) (hb : b < w.heap.size) (hc : w.cell? ⟨b, 0, none⟩ = some (.int .i64 x)) :
    Calls Try.prog 47 #[.slice (some ⟨b, 0, none⟩) 1 c, .int .i64 n] w (NewIs (List.replicate n x) w) := by
  have mk := mkInts n hn
  obtain ⟨z, hz⟩ : ∃ z, madeCells #[Value.int .i64 0] n = z := ⟨_, rfl⟩
  have hM := made_lie w n x
  rw [hz] at mk hM
  have hB0 := (Below.refl w.heap.size w).alloc (Nat.le_refl _) (.cells z 3)
  have hcb : ∀ j, j < 1 → (w.alloc (.cells z 3)).cell? ⟨b, j, none⟩ = some (.int .i64 x) := fun j hj => by
    obtain rfl : j = 0 := by omega
    exact (hB0.cell (p := ⟨b, 0, none⟩) hb).trans hc
  obtain ⟨w1, hr1, hF1, c1, hw1⟩ := hM.copy b 1 c hcb n
  have hmin : Nat.min 1 n = 1 := Nat.min_eq_left h1
  rw [Nat.sub_zero, hmin] at hr1 hF1
  rw [Nat.zero_add] at hF1
  have hB1 : Below w.heap.size w w1 := by rw [hw1]; exact below_row hB0 (Nat.le_refl _) _
  have F1 := Lib.hid hF1
  have B1 := Lib.hid hB1
  have wn : IntKind.u64.wrap (n : Int) = n := by rw [IntKind.wrap_u64]; omega
  have wi : IntKind.i64.wrap (n : Int) = n := by rw [IntKind.wrap_i64]; omega
  clear hM hB0 hcb hF1 hw1 hB1 hc hz
  go_enter Try.func47, Try.ntmps47
  go_wp2_with first
    | (go_at_call 50; refine (mul_one n hn w).mono ?_; rintro e w' ⟨rfl, hw⟩; rw [hw])
    | (at_builtin; refine wpList_copy _ _ rfl _ _ 22 22 rfl _ _ _ rfl rfl hr1 ?_)
  go_loopw [8] (fun t wr => ∃ k : Nat, t = .int .i64 k ∧ 1 ≤ k ∧ Hid (Fl wr w.heap.size n k x ∧ Below w.heap.size w wr)) (fun t _ => n - (intOf t).toNat)
  case atStart => exact ⟨1, rfl, Nat.le_refl _, Lib.hid ⟨F1.out, B1.out⟩⟩
  case round =>
    obtain ⟨k, rfl, hk1, HF⟩ := hrel
    have hkn : k ≤ n := HF.out.1.choose_spec.2.2.1
    by_cases hlt : k < n
    · go_wp2
      obtain ⟨hF, hB⟩ := HF.out
      have hFd : Fl wr.drew w.heap.size n k x := hF.drew
      obtain ⟨w2, hr2, hF2, c2, hw2⟩ := hFd.copy w.heap.size k n (fun j hj => hFd.cell hj) (n - k)
      obtain ⟨q, hq⟩ : ∃ q, Nat.min k (n - k) = q := ⟨_, rfl⟩
      have hq1 : 1 ≤ q := by rw [← hq]; exact Nat.le_min.2 ⟨hk1, by omega⟩
      rw [hq] at hr2 hF2
      have hq2 : k + q ≤ n := hF2.choose_spec.2.2.1
      have hB2 : Below w.heap.size w w2 := by rw [hw2]; exact below_row hB.drew (Nat.le_refl _) _
      have hwk : IntKind.i64.wrap ((k : Int) + (q : Int)) = (k : Int) + q := by rw [IntKind.wrap_i64]; omega
      have F2 : Hid (Fl w2 w.heap.size n (k + q) x ∧ Below w.heap.size w w2) := Lib.hid ⟨hF2, hB2⟩
      clear hF hB hFd hF2 hw2 hB2 hq
      have e1 : ((k : Int) ≤ (n : Int)) := by omega
      have e2 : ¬ (n - k = 0) := by omega
      have e3 : ¬ n = k := by omega
      refine wp_region_held (S := fun U => U = wr.drew ∨ U = w2) (by kernel_rfl) ?_
      change wpAnyH _ _ _ _ _ _ _ _ (World.drew _)
      refine wpAnyH_take (i := 0) (v := .int .i64 k) rfl (by kernel_rfl) (by kernel_rfl) (by kernel_rfl) (fun _ _ _ h => h) (.inl ⟨by rfl, fun U hU => by go_simp⟩) (.inl rfl) ?_
      refine wpAnyH_take (i := 1) (v := .slice (some ⟨w.heap.size, 0, none⟩) n n) rfl (by kernel_rfl) (by kernel_rfl) (by kernel_rfl) (fun _ _ _ h => h) (.inl ⟨by rfl, fun U hU => by go_simp⟩) (.inl rfl) ?_
      refine wpAnyH_take (i := 2) (v := .int .i64 k) rfl (by kernel_rfl) (by kernel_rfl) (by kernel_rfl) (fun _ _ _ h => h) (.inl ⟨by rfl, fun U hU => by go_simp⟩) (.inl rfl) ?_
      refine wpAnyH_take (i := 4) (v := .slice (some ⟨w.heap.size, 0, none⟩) n n) rfl (by kernel_rfl) (by kernel_rfl) (by kernel_rfl) (fun _ _ _ h => h) (.inl ⟨by rfl, fun U hU => by go_simp⟩) (.inl rfl) ?_
      refine wpAnyH_take (i := 5) (v := .int .i64 k) rfl (by kernel_rfl) (by kernel_rfl) (by kernel_rfl) (fun _ _ _ h => h) (.inl ⟨by rfl, fun U hU => by go_simp⟩) (.inl rfl) ?_
      refine wpAnyH_take (i := 3) (v := .slice (some ⟨w.heap.size, k, none⟩) (n - k) (n - k)) rfl (by kernel_rfl) (by kernel_rfl) (by kernel_rfl) (fun _ _ _ h => h) (.inl ⟨by rfl, fun U hU => by go_simp⟩) (.inl rfl) ?_
      refine wpAnyH_take (i := 6) (v := .slice (some ⟨w.heap.size, 0, none⟩) k n) rfl (by kernel_rfl) (by kernel_rfl) (by kernel_rfl) (fun _ _ _ h => h) (.inl ⟨by rfl, fun U hU => by go_simp⟩) (.inl rfl) ?_
      refine wpAnyH_all (rs := [7]) (by kernel_rfl) (by simp) ?_
      intro i hi
      simp only [List.mem_cons, List.not_mem_nil, or_false] at hi
      subst hi
      refine wpOp_copy (.tmp 41) (.tmp 44) 22 22 (.int .i64 q) (.slice (some ⟨w.heap.size, k, none⟩) (n - k) (n - k)) (.slice (some ⟨w.heap.size, 0, none⟩) k n) rfl (by kernel_rfl) rfl (by kernel_rfl) (by kernel_rfl) hr2 ?_
      refine ⟨.inr rfl, ?_⟩
      refine wpAnyH_take (i := 8) (v := .int .i64 ((k : Int) + q)) rfl (by kernel_rfl) (by kernel_rfl) (by kernel_rfl) (fun _ _ _ h => h) (.inl ⟨by rfl, fun U hU => by go_simp⟩) (.inr rfl) ?_
      refine wpAnyH_all (rs := [9]) (by kernel_rfl) (by simp) ?_
      intro i hi
      simp only [List.mem_cons, List.not_mem_nil, or_false] at hi
      subst hi
      unfold wpOp
      go_simp
      left
      refine ⟨by kernel_rfl, ?_⟩
      go_wp2
      go_roundw
      case rel => exact ⟨k + q, by go_num, by omega, F2⟩
      case measure => simp [intOf]; omega
    · obtain rfl : k = n := by omega
      go_wp2
      go_ret
      exact ⟨_, k, by simp, HF.out.1.own (Nat.le_refl _) hx hn, HF.out.2⟩

set_option maxRecDepth 100000 in
set_option maxHeartbeats 2000000 in
theorem repeat_zero (x : Int) (hx : Fit x) (b c : Nat) (w : World) :
    Calls Try.prog 47 #[.slice (some ⟨b, 0, none⟩) 1 c, .int .i64 0] w (NewIs [] w) := by
  have mk : ∀ W : World, (Instr.makeSlice 22 (.int .i64 0) (.int .i64 0)).run Try.prog W = _ := mkInts 0 (by omega)
  obtain ⟨z, hz⟩ : ∃ z, madeCells #[Value.int .i64 0] 0 = z := ⟨_, rfl⟩
  have hM := made_lie w 0 x
  rw [hz] at mk hM
  have hB0 := (Below.refl w.heap.size w).alloc (Nat.le_refl _) (.cells z 3)
  have hr1 := run_copy_none (P := Try.prog) (w.alloc (.cells z 3)) 22 22 3 3 (some ⟨w.heap.size, 0, none⟩) (some ⟨b, 0, none⟩) 0 0 1 c Try.underlying22 (by kernel_rfl) rfl
  have F1 := Lib.hid hM
  have B1 := Lib.hid hB0
  have hm := mul_one 0 (by omega) w
  have w0 : IntKind.u64.wrap 0 = 0 := by rw [IntKind.wrap_u64]; rfl
  have wi : IntKind.i64.wrap 0 = 0 := by rw [IntKind.wrap_i64]; rfl
  clear hM hB0 hz
  go_enter Try.func47, Try.ntmps47
  go_wp2_with first
    | (go_at_call 50; refine hm.mono ?_; rintro e w' ⟨rfl, hw⟩; rw [hw])
    | (at_builtin; refine wpList_copy _ _ rfl _ _ 22 22 rfl _ _ _ rfl rfl hr1 ?_)
  go_loopw [8] (fun t wr => t = .int .i64 0 ∧ wr = w.alloc (.cells z 3)) (fun t _ => 0)
  case atStart => exact ⟨rfl, rfl⟩
  case round =>
    obtain ⟨rfl, rfl⟩ := hrel
    go_wp2
    go_ret
    exact ⟨_, 0, rfl, F1.out.own (Nat.le_refl _) hx (by omega), B1.out⟩

theorem repeat_any (x : Int) (hx : Fit x) (n b c : Nat) (hn : n ≤ 1024) (w : World) (hb : b < w.heap.size) (hc : w.cell? ⟨b, 0, none⟩ = some (.int .i64 x)) :
    Calls Try.prog 47 #[.slice (some ⟨b, 0, none⟩) 1 c, .int .i64 n] w (NewIs (List.replicate n x) w) := by
  rcases Nat.eq_zero_or_pos n with rfl | h1
  · exact repeat_zero x hx b c w
  · exact repeat_pos x hx n b c h1 hn w hb hc

/-- So many times the same. -/
theorem filled_any (x : Int) (hx : Fit x) (n : Nat) (hn : n ≤ 1024) (w : World) :
    Calls Try.prog 40 #[.int .i64 n, .int .i64 x] w (NewIs (List.replicate n x) w) := by
  have hr := repeat_any x hx n w.heap.size 1 hn (w.alloc (.cells #[.int .i64 x] 3)) (by simp) (Bk.new w 3 #[.int .i64 x]).one
  have hb := Lib.hid ((Below.refl w.heap.size w).alloc (Nat.le_refl _) (.cells #[.int .i64 x] 3))
  go_enter Try.func40, Try.ntmps40
  go_wp2_with (go_at_call 47; refine hr.mono ?_; rintro e w1 ⟨A, c, rfl, ho, hb1⟩; have O1 := Lib.hid (ho.base (base' := w.heap.size) (by simp)); have B1 := Lib.hid (below3 hb.out hb1); clear ho hb1)
  go_ret
  exact ⟨A, c, by simp, O1.out, B1.out⟩

end Go.Proofs.Ytiheeehegjfmgaa

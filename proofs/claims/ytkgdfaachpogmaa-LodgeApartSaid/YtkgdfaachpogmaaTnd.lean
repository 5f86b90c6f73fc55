/-
  Layer 14, the program: a tenant is changed by a closure; Admit, Leave and Count.
-/
import Derived.Test.YtkgdfaachpogmaaTnc
import Derived.BigRegion
namespace Go.Proofs.Ytkgdfaachpogmaa
open Go.RowKit

section
variable {P : Program} {ops : Array Oper} {S : World → Prop}
/-- A call of a function of three arguments, by its contract. -/
theorem calm_call3 {o : Oper} {v : Value} {a : Act} (hw : Region.wanted o (yielded ops a.tmps) = true) (f : FuncId) (x y z : Operand) (ts : Array TypeId) (ho : o.op = .call { callee := .value (.func f), args := #[x, y, z], argTypes := ts })
    (he : ∀ args w, (callFunc f args).run P w = .ok (.enter f args) w) (u u' u'' : Value) (hx : a.eval x = u) (hy : a.eval y = u') (hz : a.eval z = u'') (hc : ∀ w, S w → Calls P f #[u, u', u''] w fun e w' => e = .returned v ∧ S w') : Calm P ops S o v a :=
  .inl ⟨hw, fun w hS => by
    have : (execOp a.eval o).run P w = .ok (.enter f #[u, u', u'']) w := by
      unfold execOp
      simp only [ho, resolve, List.map_toArray, List.map_cons, List.map_nil, hx, hy, hz]
      simp [Act.eval, Deferred.ofValue, invoke, he]
    rw [this]
    exact hc w hS⟩
end

/-- What a closure answers that changes tenant k of a row: its error; where it is none, the row with that tenant changed. -/
def SetTn (base g c k : Nat) (l : List Tn) (r : Int × Tn) (w : World) (e : Ending) (w' : World) : Prop :=
  e = .returned (.int .i64 r.1) ∧ (r.1 = 0 → RowTn 35 w' base g c (l.set k r.2)) ∧ Below base w w'

set_option maxRecDepth 100000 in
set_option maxHeartbeats 8000000 in
theorem more1_tn (base g c k : Nat) (l : List Tn) (b r : Int) (g0 g1 : Nat) (w : World) (ho : RowTn 35 w base g c l) (hk : k < l.length) (hok : okTn (tth l k)) (h0 : Bk w g0 3 #[.int .i64 b]) (h1 : Bk w g1 25 #[.int .i64 r]) (hb : -1 ≤ b ∧ b ≤ 1) (hr : r ≠ 0) :
    Calls Try.prog 34 #[.pointer (some ⟨g, k * 5, none⟩), .pointer (some ⟨g0, 0, none⟩), .pointer (some ⟨g1, 0, none⟩)] w (SetTn base g c k l (moreTn b r (tth l k)) w) := by
  have q0 : _ = some (Value.int .i64 b) := h0.cell 0
  have l0 := h0.lt
  have q1 : _ = some (Value.int .i64 r) := h1.cell 0
  have l1 := h1.lt
  have HR0 := Lib.hid hr
  clear h0 h1 hr
  obtain ⟨⟨wt, qu, li, tg, rn⟩, hz⟩ : ∃ x, tth l k = x := ⟨_, rfl⟩
  have HZ := Lib.hid hz
  rw [hz] at hok ⊢
  obtain ⟨x1, x2, x3, x4, x5⟩ := id hok
  dsimp only at x1 x2 x3 x4 x5
  obtain ⟨⟨c0, c1, c2, c3, c4⟩, f0, f1, f2, f3, f4⟩ := ho.at5 hk
  rw [hz] at c0 c1 c2 c3 c4
  dsimp only at c0 c1 c2 c3 c4
  have hlt := ho.lt
  have lg := hlt.2
  have HG : Hid (base ≤ g) := Lib.hid hlt.1
  have HB0 : Hid (base ≤ w.heap.size) := Lib.hid (by omega)
  have HO := Lib.hid ho
  have HK := Lib.hid hk
  clear ho hk hz hlt c0 c3 c4 f0 f1 f2 f3 f4
  have hbb : -1 ≤ b ∧ b ≤ 1 := hb
  by_cases hc : 0 ≤ li + b ∧ li + b ≤ qu
  · rw [moreTn_ok (b := b) (r := r) (x := ⟨wt, qu, li, tg, rn⟩) hc]
    have hw : IntKind.i64.wrap (li + b) = li + b := by rw [IntKind.wrap_i64]; omega
    have HM := Lib.hid (decide_eq_true hc)
    have FZ : Hid (FitTn ⟨wt, qu, li + b, tg, rn⟩) := Lib.hid (okTn_fit ⟨x1, x2, hc, x4, x5⟩)
    have hlr : r = r := rfl
    clear hlr x1 x2 x3 x4 x5 hok hbb hc
    go_enter Try.func34, Try.ntmps34
    go_upto_region 1 with fail
    refine calm_region (S := fun U => Below w.heap.size w U) (by kernel_rfl) (Below.refl _ _).drew ?_
    refine calm_to (i := 0) (t := 5) (v := .pointer (some ⟨g, k * 5, none⟩)) rfl rfl (by kernel_rfl) (by kernel_rfl) (by kernel_rfl) (fun _ _ _ h => h) (calm_move (by kernel_rfl) (.tmp 0) (.inl rfl) rfl) ?_
    simp only [List.setIfInBounds_toArray, List.set_cons_zero, List.set_cons_succ]
    refine calm_to (i := 1) (t := 6) (v := .pointer (some ⟨g, k * 5, none⟩)) rfl rfl (by kernel_rfl) (by kernel_rfl) (by kernel_rfl) (fun _ _ _ h => h) (calm_of (by kernel_rfl) (fun U hU => by go_simp)) ?_
    simp only [List.setIfInBounds_toArray, List.set_cons_zero, List.set_cons_succ]
    refine calm_to (i := 2) (t := 7) (v := .pointer (some ⟨g, k * 5 + 2, none⟩)) rfl rfl (by kernel_rfl) (by kernel_rfl) (by kernel_rfl) (fun _ _ _ h => h) (calm_of (by kernel_rfl) (fun U hU => by go_simp)) ?_
    simp only [List.setIfInBounds_toArray, List.set_cons_zero, List.set_cons_succ]
    refine calm_to (i := 3) (t := 8) (v := .int .i64 li) rfl rfl (by kernel_rfl) (by kernel_rfl) (by kernel_rfl) (fun _ _ _ h => h) (calm_of (by kernel_rfl) (fun U hU => by have q1 := (hU.cell (p := ⟨g, k * 5 + 2, none⟩) lg).trans c2; have ql := Nat.lt_of_lt_of_le lg hU.size; go_simp)) ?_
    simp only [List.setIfInBounds_toArray, List.set_cons_zero, List.set_cons_succ]
    refine calm_to (i := 4) (t := 9) (v := .int .i64 b) rfl rfl (by kernel_rfl) (by kernel_rfl) (by kernel_rfl) (fun _ _ _ h => h) (calm_of (by kernel_rfl) (fun U hU => by have q1 := (hU.cell (p := ⟨g0, 0, none⟩) l0).trans q0; have ql := Nat.lt_of_lt_of_le l0 hU.size; go_simp)) ?_
    simp only [List.setIfInBounds_toArray, List.set_cons_zero, List.set_cons_succ]
    refine calm_to (i := 5) (t := 10) (v := .int .i64 (li + b)) rfl rfl (by kernel_rfl) (by kernel_rfl) (by kernel_rfl) (fun _ _ _ h => h) (calm_of (by kernel_rfl) (fun U hU => by go_simp)) ?_
    simp only [List.setIfInBounds_toArray, List.set_cons_zero, List.set_cons_succ]
    refine calm_to (i := 6) (t := 11) (v := .pointer (some ⟨g, k * 5, none⟩)) rfl rfl (by kernel_rfl) (by kernel_rfl) (by kernel_rfl) (fun _ _ _ h => h) (calm_move (by kernel_rfl) (.tmp 0) (.inl rfl) rfl) ?_
    simp only [List.setIfInBounds_toArray, List.set_cons_zero, List.set_cons_succ]
    refine calm_to (i := 7) (t := 12) (v := .pointer (some ⟨g, k * 5, none⟩)) rfl rfl (by kernel_rfl) (by kernel_rfl) (by kernel_rfl) (fun _ _ _ h => h) (calm_of (by kernel_rfl) (fun U hU => by go_simp)) ?_
    simp only [List.setIfInBounds_toArray, List.set_cons_zero, List.set_cons_succ]
    refine calm_to (i := 8) (t := 13) (v := .pointer (some ⟨g, k * 5 + 1, none⟩)) rfl rfl (by kernel_rfl) (by kernel_rfl) (by kernel_rfl) (fun _ _ _ h => h) (calm_of (by kernel_rfl) (fun U hU => by go_simp)) ?_
    simp only [List.setIfInBounds_toArray, List.set_cons_zero, List.set_cons_succ]
    refine calm_to (i := 9) (t := 14) (v := .int .i64 qu) rfl rfl (by kernel_rfl) (by kernel_rfl) (by kernel_rfl) (fun _ _ _ h => h) (calm_of (by kernel_rfl) (fun U hU => by have q1 := (hU.cell (p := ⟨g, k * 5 + 1, none⟩) lg).trans c1; have ql := Nat.lt_of_lt_of_le lg hU.size; go_simp)) ?_
    simp only [List.setIfInBounds_toArray, List.set_cons_zero, List.set_cons_succ]
    refine calm_to (i := 10) (t := 15) (v := .bool true) rfl rfl (by kernel_rfl) (by kernel_rfl) (by kernel_rfl) (fun _ _ _ h => h) (calm_call3 (by kernel_rfl) 32 (.tmp 10) (.const (.int .i64 0)) (.tmp 14) #[3, 3, 3] rfl (enters_of Try.func32 (by kernel_rfl) rfl) (.int .i64 (li + b)) (.int .i64 0) (.int .i64 qu) rfl rfl rfl (fun U hU => (within_any (li + b) 0 qu U).mono fun _ _ q => ⟨by rw [q.1, HM.out], below3 hU q.2⟩)) ?_
    simp only [List.setIfInBounds_toArray, List.set_cons_zero, List.set_cons_succ]
    refine calm_to (i := 11) (t := 16) (v := .bool false) rfl rfl (by kernel_rfl) (by kernel_rfl) (by kernel_rfl) (fun _ _ _ h => h) (calm_of (by kernel_rfl) (fun U hU => by go_simp)) ?_
    simp only [List.setIfInBounds_toArray, List.set_cons_zero, List.set_cons_succ]
    refine calm_done (by kernel_rfl) (fun U hU => ?_) _
    have BU := Lib.hid (show Below w.heap.size w U from hU)
    have p0 := (hU.cell (p := ⟨g0, 0, none⟩) l0).trans q0
    have e0 := Nat.lt_of_lt_of_le l0 hU.size
    have OU := HO.out.below hU
    obtain ⟨⟨-, d1, d2, d3, d4⟩, -, -, f2, -, -⟩ := OU.at5 HK.out
    have eg := OU.lt.2
    rw [HZ.out] at d1 d2 d3 d4
    dsimp only at d1 d2 d3 d4
    have O2 := OU.setLi k (z := li + b) (by rw [HZ.out]; exact FZ.out)
    rw [HZ.out] at O2
    have O2 := Lib.hid O2
    have BW : Below base w U := BU.out.mono HB0.out
    have B2 := Lib.hid (BW.setCell (p := ⟨g, k * 5 + 2, none⟩) HG.out (.int .i64 (li + b)))
    clear hU c1 c2 lg q0 l0 OU d1 d3 d4 HM BU BW
    go_upto_region 3 with fail
    go_region
    go_wp2
    go_ret
    exact ⟨rfl, fun _ => O2.out.below (Below.refl _ _).drew, B2.out.drew⟩
  · rw [moreTn_no (b := b) (r := r) (x := ⟨wt, qu, li, tg, rn⟩) hc]
    have hw : IntKind.i64.wrap (li + b) = li + b := by rw [IntKind.wrap_i64]; omega
    have HM := Lib.hid (decide_eq_false hc)
    clear x1 x2 x3 x4 x5 hok hbb hc
    go_enter Try.func34, Try.ntmps34
    go_upto_region 1 with fail
    refine calm_region (S := fun U => Below w.heap.size w U) (by kernel_rfl) (Below.refl _ _).drew ?_
    refine calm_to (i := 0) (t := 5) (v := .pointer (some ⟨g, k * 5, none⟩)) rfl rfl (by kernel_rfl) (by kernel_rfl) (by kernel_rfl) (fun _ _ _ h => h) (calm_move (by kernel_rfl) (.tmp 0) (.inl rfl) rfl) ?_
    simp only [List.setIfInBounds_toArray, List.set_cons_zero, List.set_cons_succ]
    refine calm_to (i := 1) (t := 6) (v := .pointer (some ⟨g, k * 5, none⟩)) rfl rfl (by kernel_rfl) (by kernel_rfl) (by kernel_rfl) (fun _ _ _ h => h) (calm_of (by kernel_rfl) (fun U hU => by go_simp)) ?_
    simp only [List.setIfInBounds_toArray, List.set_cons_zero, List.set_cons_succ]
    refine calm_to (i := 2) (t := 7) (v := .pointer (some ⟨g, k * 5 + 2, none⟩)) rfl rfl (by kernel_rfl) (by kernel_rfl) (by kernel_rfl) (fun _ _ _ h => h) (calm_of (by kernel_rfl) (fun U hU => by go_simp)) ?_
    simp only [List.setIfInBounds_toArray, List.set_cons_zero, List.set_cons_succ]
    refine calm_to (i := 3) (t := 8) (v := .int .i64 li) rfl rfl (by kernel_rfl) (by kernel_rfl) (by kernel_rfl) (fun _ _ _ h => h) (calm_of (by kernel_rfl) (fun U hU => by have q1 := (hU.cell (p := ⟨g, k * 5 + 2, none⟩) lg).trans c2; have ql := Nat.lt_of_lt_of_le lg hU.size; go_simp)) ?_
    simp only [List.setIfInBounds_toArray, List.set_cons_zero, List.set_cons_succ]
    refine calm_to (i := 4) (t := 9) (v := .int .i64 b) rfl rfl (by kernel_rfl) (by kernel_rfl) (by kernel_rfl) (fun _ _ _ h => h) (calm_of (by kernel_rfl) (fun U hU => by have q1 := (hU.cell (p := ⟨g0, 0, none⟩) l0).trans q0; have ql := Nat.lt_of_lt_of_le l0 hU.size; go_simp)) ?_
    simp only [List.setIfInBounds_toArray, List.set_cons_zero, List.set_cons_succ]
    refine calm_to (i := 5) (t := 10) (v := .int .i64 (li + b)) rfl rfl (by kernel_rfl) (by kernel_rfl) (by kernel_rfl) (fun _ _ _ h => h) (calm_of (by kernel_rfl) (fun U hU => by go_simp)) ?_
    simp only [List.setIfInBounds_toArray, List.set_cons_zero, List.set_cons_succ]
    refine calm_to (i := 6) (t := 11) (v := .pointer (some ⟨g, k * 5, none⟩)) rfl rfl (by kernel_rfl) (by kernel_rfl) (by kernel_rfl) (fun _ _ _ h => h) (calm_move (by kernel_rfl) (.tmp 0) (.inl rfl) rfl) ?_
    simp only [List.setIfInBounds_toArray, List.set_cons_zero, List.set_cons_succ]
    refine calm_to (i := 7) (t := 12) (v := .pointer (some ⟨g, k * 5, none⟩)) rfl rfl (by kernel_rfl) (by kernel_rfl) (by kernel_rfl) (fun _ _ _ h => h) (calm_of (by kernel_rfl) (fun U hU => by go_simp)) ?_
    simp only [List.setIfInBounds_toArray, List.set_cons_zero, List.set_cons_succ]
    refine calm_to (i := 8) (t := 13) (v := .pointer (some ⟨g, k * 5 + 1, none⟩)) rfl rfl (by kernel_rfl) (by kernel_rfl) (by kernel_rfl) (fun _ _ _ h => h) (calm_of (by kernel_rfl) (fun U hU => by go_simp)) ?_
    simp only [List.setIfInBounds_toArray, List.set_cons_zero, List.set_cons_succ]
    refine calm_to (i := 9) (t := 14) (v := .int .i64 qu) rfl rfl (by kernel_rfl) (by kernel_rfl) (by kernel_rfl) (fun _ _ _ h => h) (calm_of (by kernel_rfl) (fun U hU => by have q1 := (hU.cell (p := ⟨g, k * 5 + 1, none⟩) lg).trans c1; have ql := Nat.lt_of_lt_of_le lg hU.size; go_simp)) ?_
    simp only [List.setIfInBounds_toArray, List.set_cons_zero, List.set_cons_succ]
    refine calm_to (i := 10) (t := 15) (v := .bool false) rfl rfl (by kernel_rfl) (by kernel_rfl) (by kernel_rfl) (fun _ _ _ h => h) (calm_call3 (by kernel_rfl) 32 (.tmp 10) (.const (.int .i64 0)) (.tmp 14) #[3, 3, 3] rfl (enters_of Try.func32 (by kernel_rfl) rfl) (.int .i64 (li + b)) (.int .i64 0) (.int .i64 qu) rfl rfl rfl (fun U hU => (within_any (li + b) 0 qu U).mono fun _ _ q => ⟨by rw [q.1, HM.out], below3 hU q.2⟩)) ?_
    simp only [List.setIfInBounds_toArray, List.set_cons_zero, List.set_cons_succ]
    refine calm_to (i := 11) (t := 16) (v := .bool true) rfl rfl (by kernel_rfl) (by kernel_rfl) (by kernel_rfl) (fun _ _ _ h => h) (calm_of (by kernel_rfl) (fun U hU => by go_simp)) ?_
    simp only [List.setIfInBounds_toArray, List.set_cons_zero, List.set_cons_succ]
    refine calm_done (by kernel_rfl) (fun U hU => ?_) _
    have BU := Lib.hid (show Below w.heap.size w U from hU)
    have p1 := (hU.cell (p := ⟨g1, 0, none⟩) l1).trans q1
    have e1 := Nat.lt_of_lt_of_le l1 hU.size
    clear hU c1 c2 lg q0 l0 q1 l1 HM
    go_wp2
    go_ret
    exact ⟨rfl, fun h => absurd h HR0.out, BU.out.mono HB0.out⟩

set_option maxRecDepth 100000 in
set_option maxHeartbeats 8000000 in
theorem count1_tn (base g c k : Nat) (l : List Tn) (u : Int) (g0 : Nat) (w : World) (ho : RowTn 35 w base g c l) (hk : k < l.length) (hok : okTn (tth l k)) (h0 : Bk w g0 2 #[.int .i64 u]) (hf : Fit u) :
    Calls Try.prog 26 #[.pointer (some ⟨g, k * 5, none⟩), .pointer (some ⟨g0, 0, none⟩)] w (SetTn base g c k l (countTn u (tth l k)) w) := by
  have q0 : _ = some (Value.int .i64 u) := h0.cell 0
  have l0 := h0.lt
  have hfu := hf
  unfold Fit at hfu
  clear h0 hf
  obtain ⟨⟨wt, qu, li, tg, rn⟩, hz⟩ : ∃ x, tth l k = x := ⟨_, rfl⟩
  have HZ := Lib.hid hz
  rw [hz] at hok ⊢
  obtain ⟨x1, x2, x3, x4, x5⟩ := id hok
  dsimp only at x1 x2 x3 x4 x5
  obtain ⟨⟨c0, c1, c2, c3, c4⟩, f0, f1, f2, f3, f4⟩ := ho.at5 hk
  rw [hz] at c0 c1 c2 c3 c4
  dsimp only at c0 c1 c2 c3 c4
  have hlt := ho.lt
  have lg := hlt.2
  have HG : Hid (base ≤ g) := Lib.hid hlt.1
  have HB0 : Hid (base ≤ w.heap.size) := Lib.hid (by omega)
  have HO := Lib.hid ho
  have HK := Lib.hid hk
  clear ho hk hz hlt c0 c1 c2 c3 f0 f1 f2 f3 f4
  by_cases hn : u < 0
  · rw [countTn_1 (x := ⟨wt, qu, li, tg, rn⟩) hn]
    have t0 : decide (u < 0) = true := decide_eq_true hn
    clear x1 x2 x3 x4 x5 hok hn c4 lg
    go_enter Try.func26, Try.ntmps26
    go_wp2
    go_ret
    exact ⟨rfl, fun h => absurd h (by show ¬ ((1 : Int) = 0); decide), Below.refl _ _⟩
  · by_cases hc : u ≤ 1099511627776 - rn
    · rw [countTn_0 (x := ⟨wt, qu, li, tg, rn⟩) hn hc]
      have hw : IntKind.i64.wrap (1099511627776 - rn) = 1099511627776 - rn := by rw [IntKind.wrap_i64]; omega
      have hw2 : IntKind.i64.wrap (rn + u) = rn + u := by rw [IntKind.wrap_i64]; omega
      have t0 : decide (u < 0) = false := decide_eq_false hn
      have HM := Lib.hid (decide_eq_true (show 0 ≤ u ∧ u ≤ 1099511627776 - rn by omega))
      have FZ : Hid (FitTn ⟨wt, qu, li, tg, rn + u⟩) := Lib.hid (okTn_fit ⟨x1, x2, x3, x4, by show 0 ≤ rn + u ∧ rn + u ≤ 1099511627776; omega⟩)
      clear x1 x2 x3 x4 x5 hok hn hc
      go_enter Try.func26, Try.ntmps26
      go_upto_region 3 with fail
      refine calm_region (S := fun U => Below w.heap.size w U) (by kernel_rfl) (Below.refl _ _).drew ?_
      refine calm_to (i := 0) (t := 6) (v := .int .i64 u) rfl rfl (by kernel_rfl) (by kernel_rfl) (by kernel_rfl) (fun _ _ _ h => h) (calm_of (by kernel_rfl) (fun U hU => by have q1 := (hU.cell (p := ⟨g0, 0, none⟩) l0).trans q0; have ql := Nat.lt_of_lt_of_le l0 hU.size; go_simp)) ?_
      simp only [List.setIfInBounds_toArray, List.set_cons_zero, List.set_cons_succ]
      refine calm_to (i := 1) (t := 7) (v := .pointer (some ⟨g, k * 5, none⟩)) rfl rfl (by kernel_rfl) (by kernel_rfl) (by kernel_rfl) (fun _ _ _ h => h) (calm_move (by kernel_rfl) (.tmp 0) (.inl rfl) rfl) ?_
      simp only [List.setIfInBounds_toArray, List.set_cons_zero, List.set_cons_succ]
      refine calm_to (i := 2) (t := 8) (v := .pointer (some ⟨g, k * 5, none⟩)) rfl rfl (by kernel_rfl) (by kernel_rfl) (by kernel_rfl) (fun _ _ _ h => h) (calm_of (by kernel_rfl) (fun U hU => by go_simp)) ?_
      simp only [List.setIfInBounds_toArray, List.set_cons_zero, List.set_cons_succ]
      refine calm_to (i := 3) (t := 9) (v := .pointer (some ⟨g, k * 5 + 4, none⟩)) rfl rfl (by kernel_rfl) (by kernel_rfl) (by kernel_rfl) (fun _ _ _ h => h) (calm_of (by kernel_rfl) (fun U hU => by go_simp)) ?_
      simp only [List.setIfInBounds_toArray, List.set_cons_zero, List.set_cons_succ]
      refine calm_to (i := 4) (t := 10) (v := .int .i64 rn) rfl rfl (by kernel_rfl) (by kernel_rfl) (by kernel_rfl) (fun _ _ _ h => h) (calm_of (by kernel_rfl) (fun U hU => by have q1 := (hU.cell (p := ⟨g, k * 5 + 4, none⟩) lg).trans c4; have ql := Nat.lt_of_lt_of_le lg hU.size; go_simp)) ?_
      simp only [List.setIfInBounds_toArray, List.set_cons_zero, List.set_cons_succ]
      refine calm_to (i := 5) (t := 11) (v := .int .i64 (1099511627776 - rn)) rfl rfl (by kernel_rfl) (by kernel_rfl) (by kernel_rfl) (fun _ _ _ h => h) (calm_of (by kernel_rfl) (fun U hU => by go_simp)) ?_
      simp only [List.setIfInBounds_toArray, List.set_cons_zero, List.set_cons_succ]
      refine calm_to (i := 6) (t := 12) (v := .bool true) rfl rfl (by kernel_rfl) (by kernel_rfl) (by kernel_rfl) (fun _ _ _ h => h) (calm_call3 (by kernel_rfl) 27 (.tmp 6) (.const (.int .i64 0)) (.tmp 11) #[2, 2, 2] rfl (enters_of Try.func27 (by kernel_rfl) rfl) (.int .i64 u) (.int .i64 0) (.int .i64 (1099511627776 - rn)) rfl rfl rfl (fun U hU => (within64_any u 0 (1099511627776 - rn) U).mono fun _ _ q => ⟨by rw [q.1, HM.out], below3 hU q.2⟩)) ?_
      simp only [List.setIfInBounds_toArray, List.set_cons_zero, List.set_cons_succ]
      refine calm_to (i := 7) (t := 13) (v := .bool false) rfl rfl (by kernel_rfl) (by kernel_rfl) (by kernel_rfl) (fun _ _ _ h => h) (calm_of (by kernel_rfl) (fun U hU => by go_simp)) ?_
      simp only [List.setIfInBounds_toArray, List.set_cons_zero, List.set_cons_succ]
      refine calm_done (by kernel_rfl) (fun U hU => ?_) _
      have BU := Lib.hid (show Below w.heap.size w U from hU)
      have p0 := (hU.cell (p := ⟨g0, 0, none⟩) l0).trans q0
      have e0 := Nat.lt_of_lt_of_le l0 hU.size
      have OU := HO.out.below hU
      obtain ⟨⟨-, d1, d2, d3, d4⟩, -, -, -, -, f4⟩ := OU.at5 HK.out
      have eg := OU.lt.2
      rw [HZ.out] at d1 d2 d3 d4
      dsimp only at d1 d2 d3 d4
      have O2 := OU.setRn k (z := rn + u) (by rw [HZ.out]; exact FZ.out)
      rw [HZ.out] at O2
      have O2 := Lib.hid O2
      have BW : Below base w U := BU.out.mono HB0.out
      have B2 := Lib.hid (BW.setCell (p := ⟨g, k * 5 + 4, none⟩) HG.out (.int .i64 (rn + u)))
      clear hU c4 lg q0 l0 OU d1 d2 d3 HM BU BW
      go_upto_region 5 with fail
      go_region
      go_wp2
      go_ret
      exact ⟨rfl, fun _ => O2.out.below (Below.refl _ _).drew, B2.out.drew⟩
    · rw [countTn_4 (x := ⟨wt, qu, li, tg, rn⟩) hn hc]
      have hw : IntKind.i64.wrap (1099511627776 - rn) = 1099511627776 - rn := by rw [IntKind.wrap_i64]; omega
      have t0 : decide (u < 0) = false := decide_eq_false hn
      have HM := Lib.hid (decide_eq_false (show ¬ (0 ≤ u ∧ u ≤ 1099511627776 - rn) by omega))
      clear x1 x2 x3 x4 x5 hok hn hc
      go_enter Try.func26, Try.ntmps26
      go_upto_region 3 with fail
      refine calm_region (S := fun U => Below w.heap.size w U) (by kernel_rfl) (Below.refl _ _).drew ?_
      refine calm_to (i := 0) (t := 6) (v := .int .i64 u) rfl rfl (by kernel_rfl) (by kernel_rfl) (by kernel_rfl) (fun _ _ _ h => h) (calm_of (by kernel_rfl) (fun U hU => by have q1 := (hU.cell (p := ⟨g0, 0, none⟩) l0).trans q0; have ql := Nat.lt_of_lt_of_le l0 hU.size; go_simp)) ?_
      simp only [List.setIfInBounds_toArray, List.set_cons_zero, List.set_cons_succ]
      refine calm_to (i := 1) (t := 7) (v := .pointer (some ⟨g, k * 5, none⟩)) rfl rfl (by kernel_rfl) (by kernel_rfl) (by kernel_rfl) (fun _ _ _ h => h) (calm_move (by kernel_rfl) (.tmp 0) (.inl rfl) rfl) ?_
      simp only [List.setIfInBounds_toArray, List.set_cons_zero, List.set_cons_succ]
      refine calm_to (i := 2) (t := 8) (v := .pointer (some ⟨g, k * 5, none⟩)) rfl rfl (by kernel_rfl) (by kernel_rfl) (by kernel_rfl) (fun _ _ _ h => h) (calm_of (by kernel_rfl) (fun U hU => by go_simp)) ?_
      simp only [List.setIfInBounds_toArray, List.set_cons_zero, List.set_cons_succ]
      refine calm_to (i := 3) (t := 9) (v := .pointer (some ⟨g, k * 5 + 4, none⟩)) rfl rfl (by kernel_rfl) (by kernel_rfl) (by kernel_rfl) (fun _ _ _ h => h) (calm_of (by kernel_rfl) (fun U hU => by go_simp)) ?_
      simp only [List.setIfInBounds_toArray, List.set_cons_zero, List.set_cons_succ]
      refine calm_to (i := 4) (t := 10) (v := .int .i64 rn) rfl rfl (by kernel_rfl) (by kernel_rfl) (by kernel_rfl) (fun _ _ _ h => h) (calm_of (by kernel_rfl) (fun U hU => by have q1 := (hU.cell (p := ⟨g, k * 5 + 4, none⟩) lg).trans c4; have ql := Nat.lt_of_lt_of_le lg hU.size; go_simp)) ?_
      simp only [List.setIfInBounds_toArray, List.set_cons_zero, List.set_cons_succ]
      refine calm_to (i := 5) (t := 11) (v := .int .i64 (1099511627776 - rn)) rfl rfl (by kernel_rfl) (by kernel_rfl) (by kernel_rfl) (fun _ _ _ h => h) (calm_of (by kernel_rfl) (fun U hU => by go_simp)) ?_
      simp only [List.setIfInBounds_toArray, List.set_cons_zero, List.set_cons_succ]
      refine calm_to (i := 6) (t := 12) (v := .bool false) rfl rfl (by kernel_rfl) (by kernel_rfl) (by kernel_rfl) (fun _ _ _ h => h) (calm_call3 (by kernel_rfl) 27 (.tmp 6) (.const (.int .i64 0)) (.tmp 11) #[2, 2, 2] rfl (enters_of Try.func27 (by kernel_rfl) rfl) (.int .i64 u) (.int .i64 0) (.int .i64 (1099511627776 - rn)) rfl rfl rfl (fun U hU => (within64_any u 0 (1099511627776 - rn) U).mono fun _ _ q => ⟨by rw [q.1, HM.out], below3 hU q.2⟩)) ?_
      simp only [List.setIfInBounds_toArray, List.set_cons_zero, List.set_cons_succ]
      refine calm_to (i := 7) (t := 13) (v := .bool true) rfl rfl (by kernel_rfl) (by kernel_rfl) (by kernel_rfl) (fun _ _ _ h => h) (calm_of (by kernel_rfl) (fun U hU => by go_simp)) ?_
      simp only [List.setIfInBounds_toArray, List.set_cons_zero, List.set_cons_succ]
      refine calm_done (by kernel_rfl) (fun U hU => ?_) _
      have BU := Lib.hid (show Below w.heap.size w U from hU)
      clear hU c4 lg q0 l0 HM
      go_wp2
      go_ret
      exact ⟨rfl, fun h => absurd h (by show ¬ ((4 : Int) = 0); decide), BU.out.mono HB0.out⟩

set_option maxRecDepth 100000 in
set_option maxHeartbeats 8000000 in
theorem changeMore_tn (A : Option Addr) (n c : Nat) (l : List Tn) (i b r : Int) (g0 g1 : Nat) (w : World) (hx : Tns w A n c l) (hn : n ≤ 1000) (h0 : Bk w g0 3 #[.int .i64 b]) (h1 : Bk w g1 25 #[.int .i64 r]) (hb : -1 ≤ b ∧ b ≤ 1) (hr : r ≠ 0) :
    Calls Try.prog 22 #[.slice A n c, .int .i64 i, .func (.func 34) #[] #[.pointer (some ⟨g0, 0, none⟩), .pointer (some ⟨g1, 0, none⟩)]] w (ListTn (changeLn (moreTn b r) l i) w) := by
  have HX := Lib.hid hx
  have LX := Lib.hid hx.1
  have hnc := hx.2.1
  clear hx
  have H0 := Lib.hid h0
  have H1 := Lib.hid h1
  have HBB := Lib.hid hb
  have HRR := Lib.hid hr
  clear h0 h1 hb hr
  by_cases hok : okLn l
  · have HC := Lib.hid (chkLn_yes hok)
    have hn1 : 1 ≤ n := by rw [← LX.out]; exact hok.1.1
    have hwn : IntKind.i64.wrap ((n : Int) - 1) = (n : Int) - 1 := by rw [IntKind.wrap_i64]; omega
    by_cases hi : 0 ≤ i ∧ i ≤ (n : Int) - 1
    · have HW := Lib.hid (decide_eq_true hi)
      obtain ⟨k, rfl⟩ : ∃ k : Nat, i = (k : Int) := ⟨i.toNat, by omega⟩
      have hkn : k < n := by omega
      have hkl : k < l.length := by rw [LX.out]; exact hkn
      have HF : Hid (findLn l (k : Int) = 0) := Lib.hid (findLn_0 hok (by rw [LX.out]; omega))
      have HKL := Lib.hid hkl
      have HT := Lib.hid (hok.2 k hkl)
      obtain ⟨⟨e0, y⟩, hfx⟩ : ∃ q, (moreTn b r) (tth l k) = q := ⟨_, rfl⟩
      have HFX := Lib.hid hfx
      obtain ⟨R, hR⟩ : ∃ q, changeLn (moreTn b r) l (k : Int) = q := ⟨_, rfl⟩
      rw [hR]
      have HR := Lib.hid hR
      clear hfx hi hkl hok hR
      go_enter Try.func22, Try.ntmps22
      go_wp2_with fail
      refine (pchk_any A n c l _ HX.out).mono ?_
      rw [HC.out]
      rintro e U1 ⟨rfl, b1⟩
      have BB := Lib.hid b1
      clear b1
      go_wp2_with fail
      refine (within_any _ _ _ _).mono ?_
      rw [HW.out]
      rintro e U2 ⟨rfl, b2⟩
      replace BB := Lib.hid (below3 BB.out b2)
      clear b2
      go_wp2_with fail
      refine (clone_tn A n c l _ (HX.out.below BB.out) hn).mono ?_
      rintro e U3 ⟨A3, c3, rfl, o3, b3⟩
      have O3 := Lib.hid o3
      have HB3 := Lib.hid BB.out.size
      replace BB := Lib.hid (below3 BB.out b3)
      have hcap := o3.tns.2.1
      clear o3 b3
      obtain ⟨g, rfl, hg, hbg⟩ := O3.out.some_ (by have := HKL.out; omega)
      rw [LX.out] at hcap ⊢
      have HCAP := Lib.hid hcap
      go_wp2_with fail
      refine (more1_tn _ g c3 k l b r g0 g1 _ O3.out HKL.out HT.out (H0.out.below BB.out H0.out.lt) (H1.out.below BB.out H1.out.lt) HBB.out HRR.out).mono ?_
      rw [HFX.out]
      rintro e U4 ⟨rfl, hrow, b4⟩
      have HRO := Lib.hid hrow
      replace BB := Lib.hid (BB.out.trans (b4.mono HB3.out))
      clear hrow b4 hg hbg
      dsimp only at HRO ⊢
      by_cases he : e0 = 0
      · subst he
        have HRE := Lib.hid (HR.out.symm.trans (changeLn_ok HF.out HFX.out))
        have OO := Lib.hid ((HRO.out rfl).base HB3.out)
        obtain ⟨p, hp⟩ : ∃ p, l.set k y = p := ⟨_, rfl⟩
        rw [hp] at OO HRE
        have HPL : Hid (p.length = n) := Lib.hid (by rw [← hp, List.length_set]; exact LX.out)
        clear hp HRO
        go_wp2
        exact bodyPost_ret (results_tmp2 rfl _ _ _) rfl (by rw [HRE.out]; exact ⟨some ⟨g, 0, none⟩, c3, by rw [show (0, p).2.length = n from HPL.out]; rfl, OO.out, BB.out⟩)
      · have HRE := Lib.hid (HR.out.symm.trans (changeLn_err HF.out HFX.out he))
        have t0 : (e0 != 0) = true := by simpa using he
        clear he HRO
        go_wp2
        exact bodyPost_ret (results_tmp2 rfl _ _ _) rfl (by rw [HRE.out]; exact listTn_no e0 BB.out)
    · have HW := Lib.hid (decide_eq_false hi)
      rw [changeLn_no (findLn_5 hok (by rw [LX.out]; omega)) (by decide)]
      clear hi hok
      go_enter Try.func22, Try.ntmps22
      go_wp2_with fail
      refine (pchk_any A n c l _ HX.out).mono ?_
      rw [HC.out]
      rintro e U1 ⟨rfl, b1⟩
      have BB := Lib.hid b1
      clear b1
      go_wp2_with fail
      refine (within_any _ _ _ _).mono ?_
      rw [HW.out]
      rintro e U2 ⟨rfl, b2⟩
      replace BB := Lib.hid (below3 BB.out b2)
      clear b2
      go_wp2
      exact bodyPost_ret (results_tmp2 rfl _ _ _) rfl (by exact listTn_no 5 BB.out)
  · have HC := Lib.hid (chkLn_no hok)
    rw [changeLn_no (findLn_1 hok) (by decide)]
    clear hok
    go_enter Try.func22, Try.ntmps22
    go_wp2_with fail
    refine (pchk_any A n c l _ HX.out).mono ?_
    rw [HC.out]
    rintro e U1 ⟨rfl, b1⟩
    have BB := Lib.hid b1
    clear b1
    go_wp2
    exact bodyPost_ret (results_tmp2 rfl _ _ _) rfl (by exact listTn_no 1 BB.out)

set_option maxRecDepth 100000 in
set_option maxHeartbeats 8000000 in
theorem changeCount_tn (A : Option Addr) (n c : Nat) (l : List Tn) (i u : Int) (g0 : Nat) (w : World) (hx : Tns w A n c l) (hn : n ≤ 1000) (h0 : Bk w g0 2 #[.int .i64 u]) (hf : Fit u) :
    Calls Try.prog 22 #[.slice A n c, .int .i64 i, .func (.func 26) #[] #[.pointer (some ⟨g0, 0, none⟩)]] w (ListTn (changeLn (countTn u) l i) w) := by
  have HX := Lib.hid hx
  have LX := Lib.hid hx.1
  have hnc := hx.2.1
  clear hx
  have H0 := Lib.hid h0
  have HFU := Lib.hid hf
  clear h0 hf
  by_cases hok : okLn l
  · have HC := Lib.hid (chkLn_yes hok)
    have hn1 : 1 ≤ n := by rw [← LX.out]; exact hok.1.1
    have hwn : IntKind.i64.wrap ((n : Int) - 1) = (n : Int) - 1 := by rw [IntKind.wrap_i64]; omega
    by_cases hi : 0 ≤ i ∧ i ≤ (n : Int) - 1
    · have HW := Lib.hid (decide_eq_true hi)
      obtain ⟨k, rfl⟩ : ∃ k : Nat, i = (k : Int) := ⟨i.toNat, by omega⟩
      have hkn : k < n := by omega
      have hkl : k < l.length := by rw [LX.out]; exact hkn
      have HF : Hid (findLn l (k : Int) = 0) := Lib.hid (findLn_0 hok (by rw [LX.out]; omega))
      have HKL := Lib.hid hkl
      have HT := Lib.hid (hok.2 k hkl)
      obtain ⟨⟨e0, y⟩, hfx⟩ : ∃ q, (countTn u) (tth l k) = q := ⟨_, rfl⟩
      have HFX := Lib.hid hfx
      obtain ⟨R, hR⟩ : ∃ q, changeLn (countTn u) l (k : Int) = q := ⟨_, rfl⟩
      rw [hR]
      have HR := Lib.hid hR
      clear hfx hi hkl hok hR
      go_enter Try.func22, Try.ntmps22
      go_wp2_with fail
      refine (pchk_any A n c l _ HX.out).mono ?_
      rw [HC.out]
      rintro e U1 ⟨rfl, b1⟩
      have BB := Lib.hid b1
      clear b1
      go_wp2_with fail
      refine (within_any _ _ _ _).mono ?_
      rw [HW.out]
      rintro e U2 ⟨rfl, b2⟩
      replace BB := Lib.hid (below3 BB.out b2)
      clear b2
      go_wp2_with fail
      refine (clone_tn A n c l _ (HX.out.below BB.out) hn).mono ?_
      rintro e U3 ⟨A3, c3, rfl, o3, b3⟩
      have O3 := Lib.hid o3
      have HB3 := Lib.hid BB.out.size
      replace BB := Lib.hid (below3 BB.out b3)
      have hcap := o3.tns.2.1
      clear o3 b3
      obtain ⟨g, rfl, hg, hbg⟩ := O3.out.some_ (by have := HKL.out; omega)
      rw [LX.out] at hcap ⊢
      have HCAP := Lib.hid hcap
      go_wp2_with fail
      refine (count1_tn _ g c3 k l u g0 _ O3.out HKL.out HT.out (H0.out.below BB.out H0.out.lt) HFU.out).mono ?_
      rw [HFX.out]
      rintro e U4 ⟨rfl, hrow, b4⟩
      have HRO := Lib.hid hrow
      replace BB := Lib.hid (BB.out.trans (b4.mono HB3.out))
      clear hrow b4 hg hbg
      dsimp only at HRO ⊢
      by_cases he : e0 = 0
      · subst he
        have HRE := Lib.hid (HR.out.symm.trans (changeLn_ok HF.out HFX.out))
        have OO := Lib.hid ((HRO.out rfl).base HB3.out)
        obtain ⟨p, hp⟩ : ∃ p, l.set k y = p := ⟨_, rfl⟩
        rw [hp] at OO HRE
        have HPL : Hid (p.length = n) := Lib.hid (by rw [← hp, List.length_set]; exact LX.out)
        clear hp HRO
        go_wp2
        exact bodyPost_ret (results_tmp2 rfl _ _ _) rfl (by rw [HRE.out]; exact ⟨some ⟨g, 0, none⟩, c3, by rw [show (0, p).2.length = n from HPL.out]; rfl, OO.out, BB.out⟩)
      · have HRE := Lib.hid (HR.out.symm.trans (changeLn_err HF.out HFX.out he))
        have t0 : (e0 != 0) = true := by simpa using he
        clear he HRO
        go_wp2
        exact bodyPost_ret (results_tmp2 rfl _ _ _) rfl (by rw [HRE.out]; exact listTn_no e0 BB.out)
    · have HW := Lib.hid (decide_eq_false hi)
      rw [changeLn_no (findLn_5 hok (by rw [LX.out]; omega)) (by decide)]
      clear hi hok
      go_enter Try.func22, Try.ntmps22
      go_wp2_with fail
      refine (pchk_any A n c l _ HX.out).mono ?_
      rw [HC.out]
      rintro e U1 ⟨rfl, b1⟩
      have BB := Lib.hid b1
      clear b1
      go_wp2_with fail
      refine (within_any _ _ _ _).mono ?_
      rw [HW.out]
      rintro e U2 ⟨rfl, b2⟩
      replace BB := Lib.hid (below3 BB.out b2)
      clear b2
      go_wp2
      exact bodyPost_ret (results_tmp2 rfl _ _ _) rfl (by exact listTn_no 5 BB.out)
  · have HC := Lib.hid (chkLn_no hok)
    rw [changeLn_no (findLn_1 hok) (by decide)]
    clear hok
    go_enter Try.func22, Try.ntmps22
    go_wp2_with fail
    refine (pchk_any A n c l _ HX.out).mono ?_
    rw [HC.out]
    rintro e U1 ⟨rfl, b1⟩
    have BB := Lib.hid b1
    clear b1
    go_wp2
    exact bodyPost_ret (results_tmp2 rfl _ _ _) rfl (by exact listTn_no 1 BB.out)

/-- The closure that is handed out, and what it captured. -/
def MoreTn (b r : Int) (w : World) (e : Ending) (w' : World) : Prop := ∃ g0 g1, e = .returned (.func (.func 34) #[] #[.pointer (some ⟨g0, 0, none⟩), .pointer (some ⟨g1, 0, none⟩)]) ∧ Bk w' g0 3 #[.int .i64 b] ∧ Bk w' g1 25 #[.int .i64 r] ∧ Below w.heap.size w w'

set_option maxHeartbeats 1000000 in
theorem moreLive_tn (b r : Int) (w : World) :
    Calls Try.prog 23 #[.int .i64 b, .int .i64 r] w (MoreTn b r w) := by
  obtain ⟨k0, k1, b0⟩ := lies2 w #[.int .i64 b] #[.int .i64 r] 3 25
  have K0 := Lib.hid k0
  have K1 := Lib.hid k1
  have B0 := Lib.hid b0
  clear k0 k1 b0
  go_enter Try.func23, Try.ntmps23
  go_wp2
  go_ret
  exact ⟨w.heap.size, w.heap.size + 1, rfl, K0.out, K1.out, B0.out⟩

set_option maxHeartbeats 2000000 in
theorem padmit_tn (A : Option Addr) (n c : Nat) (l : List Tn) (i : Int) (w : World) (hx : Tns w A n c l) (hn : n ≤ 1000) :
    Calls Try.prog 9 #[.slice A n c, .int .i64 i] w (ListTn (admitLn l i) w) := by
  have HX := Lib.hid hx
  have hnc := hx.2.1
  clear hx
  obtain ⟨⟨er, p⟩, hr⟩ : ∃ q, admitLn l i = q := ⟨_, rfl⟩
  rw [hr]
  have HR : Hid (changeLn (moreTn 1 10) l i = (er, p)) := Lib.hid hr
  clear hr
  go_enter Try.func9, Try.ntmps9
  go_wp2_with fail
  refine (moreLive_tn 1 10 _).mono ?_
  rintro e w1 ⟨g0, g1, rfl, k0, k1, b1⟩
  have K0 := Lib.hid k0
  have K1 := Lib.hid k1
  have B1 := Lib.hid b1
  clear k0 k1 b1
  go_wp2_with fail
  refine (changeMore_tn A n c l i 1 10 g0 g1 _ (HX.out.below B1.out) hn K0.out K1.out (by decide) (by decide)).mono ?_
  rw [HR.out]
  rintro e w2 ⟨A2, c2, rfl, o2, b2⟩
  have O2 := Lib.hid (o2.base B1.out.size)
  have B2 := Lib.hid (below3 B1.out b2)
  clear o2 b2
  go_wp2
  exact bodyPost_ret (results_tmp2 rfl _ _ _) rfl ⟨A2, c2, rfl, O2.out, B2.out⟩

set_option maxHeartbeats 2000000 in
theorem pleave_tn (A : Option Addr) (n c : Nat) (l : List Tn) (i : Int) (w : World) (hx : Tns w A n c l) (hn : n ≤ 1000) :
    Calls Try.prog 11 #[.slice A n c, .int .i64 i] w (ListTn (leaveLn l i) w) := by
  have HX := Lib.hid hx
  have hnc := hx.2.1
  clear hx
  obtain ⟨⟨er, p⟩, hr⟩ : ∃ q, leaveLn l i = q := ⟨_, rfl⟩
  rw [hr]
  have HR : Hid (changeLn (moreTn (-1) 9) l i = (er, p)) := Lib.hid hr
  clear hr
  go_enter Try.func11, Try.ntmps11
  go_wp2_with fail
  refine (moreLive_tn (-1) 9 _).mono ?_
  rintro e w1 ⟨g0, g1, rfl, k0, k1, b1⟩
  have K0 := Lib.hid k0
  have K1 := Lib.hid k1
  have B1 := Lib.hid b1
  clear k0 k1 b1
  go_wp2_with fail
  refine (changeMore_tn A n c l i (-1) 9 g0 g1 _ (HX.out.below B1.out) hn K0.out K1.out (by decide) (by decide)).mono ?_
  rw [HR.out]
  rintro e w2 ⟨A2, c2, rfl, o2, b2⟩
  have O2 := Lib.hid (o2.base B1.out.size)
  have B2 := Lib.hid (below3 B1.out b2)
  clear o2 b2
  go_wp2
  exact bodyPost_ret (results_tmp2 rfl _ _ _) rfl ⟨A2, c2, rfl, O2.out, B2.out⟩

set_option maxHeartbeats 2000000 in
theorem pcount_tn (A : Option Addr) (n c : Nat) (l : List Tn) (i u : Int) (w : World) (hx : Tns w A n c l) (hn : n ≤ 1000) (hf : Fit u) :
    Calls Try.prog 13 #[.slice A n c, .int .i64 i, .int .i64 u] w (ListTn (countLn l i u) w) := by
  have HX := Lib.hid hx
  have hnc := hx.2.1
  have HFU := Lib.hid hf
  clear hx hf
  obtain ⟨⟨er, p⟩, hr⟩ : ∃ q, countLn l i u = q := ⟨_, rfl⟩
  rw [hr]
  have HR : Hid (changeLn (countTn u) l i = (er, p)) := Lib.hid hr
  clear hr
  obtain ⟨kb0, hb0⟩ := lay1 w #[.int .i64 u] 2
  obtain ⟨V, hV⟩ : ∃ V, w.alloc (.cells #[.int .i64 u] 2) = V := ⟨_, rfl⟩
  rw [hV] at hb0 kb0
  have HV := Lib.hid hV
  have BB := Lib.hid hb0
  have Ku := Lib.hid kb0
  have HBu : Hid (w.heap.size ≤ w.heap.size) := Lib.hid (Nat.le_refl _)
  clear hV hb0 kb0
  go_enter Try.func13, Try.ntmps13
  go_upto_region 1 with fail
  rw [HV.out]
  clear HV
  go_wp2_with fail
  refine (changeCount_tn A n c l i u w.heap.size _ (HX.out.below BB.out) hn Ku.out HFU.out).mono ?_
  rw [HR.out]
  rintro e w2 ⟨A2, c2, rfl, o2, b2⟩
  have O2 := Lib.hid (o2.base BB.out.size)
  have B2 := Lib.hid (below3 BB.out b2)
  clear o2 b2
  go_wp2
  exact bodyPost_ret (results_tmp2 rfl _ _ _) rfl ⟨A2, c2, rfl, O2.out, B2.out⟩

end Go.Proofs.Ytkgdfaachpogmaa

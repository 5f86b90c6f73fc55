/-
  Contracts of Same of layer 4, and of what the library compares slices by: the program's and the document's.
-/
import Derived.Test.YtpfnoohcilefhaaFind
import Derived.Test.YtpfnoohcilefhaaCalm
import Derived.Laws.StructEq
namespace Go.Proofs.Ytpfnoohcilefhaa
open Go.RowKit

/-- Are two instructions the same? -/
def sameI (x y : I3) : Bool := x.1 == y.1 && (x.2.1 == y.2.1 && x.2.2 == y.2.2)
theorem sameI_iff {x y : I3} : sameI x y = true ↔ x = y := by
  obtain ⟨a, b, c⟩ := x
  obtain ⟨a', b', c'⟩ := y
  simp [sameI]
theorem sameI_yes {x y : I3} (h : x = y) : sameI x y = true := sameI_iff.2 h
theorem sameI_no {x y : I3} (h : x ≠ y) : sameI x y = false := by
  cases hs : sameI x y with
  | false => rfl
  | true => exact absurd (sameI_iff.1 hs) h

theorem neq_instr (o a b o' a' b' : Int) (w : World) : (binOp .neq 61 (.agg #[.int .i64 o, .int .i64 a, .int .i64 b]) (.agg #[.int .i64 o', .int .i64 a', .int .i64 b'])).run Try.prog w = .ok (.bool (!sameI (o, a, b) (o', a', b'))) w := by
  have h1 : (Op.equalIn 10000 61 (.agg #[.int .i64 o, .int .i64 a, .int .i64 b]) (.agg #[.int .i64 o', .int .i64 a', .int .i64 b'])).run Try.prog w = .ok (sameI (o, a, b) (o', a', b')) w := by
    have hS : Try.prog.underlying 61 = some (.struct (Try.prog.fieldsOf 61)) := by kernel_rfl
    rw [run_equalIn_struct w 9999 61 _ _ hS (by kernel_rfl)]
    simp only [Program.fieldsOf, Try.underlying61]
    have u3 := Try.underlying3
    go_simp
    by_cases h1 : o = o' <;> by_cases h2 : a = a' <;> by_cases h3 : b = b' <;> simp [sameI, h1, h2, h3]
  rw [run_neq_struct, h1]
  rfl

/-- A struct of three cells, read. -/
theorem calm_instr {ops : Array Oper} {S : World → Prop} {o : Oper} {a : Act} (hw : Region.wanted o (yielded ops a.tmps) = true) (x : Operand) (ho : o.op = .load 61 x) (b k : Nat) (hx : a.eval x = .pointer (some ⟨b, k, none⟩)) {u v y : Int}
    (hS : ∀ w, S w → w.cell? ⟨b, k, none⟩ = some (.int .i64 u) ∧ w.cell? ⟨b, k + 1, none⟩ = some (.int .i64 v) ∧ w.cell? ⟨b, k + 2, none⟩ = some (.int .i64 y)) : Calm Try.prog ops S o (.agg #[.int .i64 u, .int .i64 v, .int .i64 y]) a :=
  calm_of hw fun w hw' => by
    obtain ⟨g0, g1, g2⟩ := hS w hw'
    unfold execOp
    simp only [ho, hx]
    go_simp

/-- A cell, read. -/
theorem calm_cell {ops : Array Oper} {S : World → Prop} {o : Oper} {a : Act} (hw : Region.wanted o (yielded ops a.tmps) = true) (x : Operand) (ho : o.op = .load 59 x) (b k : Nat) (hx : a.eval x = .pointer (some ⟨b, k, none⟩)) {B : Option Addr} {m c : Nat}
    (hS : ∀ w, S w → w.cell? ⟨b, k, none⟩ = some (.slice B m c)) : Calm Try.prog ops S o (.slice B m c) a :=
  calm_of hw fun w hw' => by
    have g0 := hS w hw'
    unfold execOp
    simp only [ho, hx]
    go_simp

/-- The relation of the loop: so far all are the same. -/
def EqRel (q : Nat → Bool) (n : Nat) (w : World) (t : Value) (wr : World) : Prop := ∃ k : Nat, k ≤ n ∧ t = .int .i64 k ∧ (∀ j, j < k → q j = true) ∧ Below w.heap.size w wr

theorem sameP_len {p q : List I3} (h : p.length ≠ q.length) : sameP p q = false := decide_eq_false (fun e => h (by rw [e]))
theorem sameP_at {p q : List I3} {k : Nat} (h : ith p k ≠ ith q k) : sameP p q = false := decide_eq_false (fun e => h (by rw [e]))
theorem sameP_all {p q : List I3} {n : Nat} (hp : p.length = n) (hq : q.length = n) (h : ∀ j, j < n → sameI (ith p j) (ith q j) = true) : sameP p q = true := by
  refine decide_eq_true (List.ext_getElem (by omega) fun i h1 h2 => ?_)
  have := sameI_iff.1 (h i (by omega))
  rwa [ith_get h1, ith_get h2] at this
theorem sameL_len {p q : List (List I3)} (h : p.length ≠ q.length) : sameL p q = false := decide_eq_false (fun e => h (by rw [e]))
theorem sameL_at {p q : List (List I3)} {k : Nat} (h : sameP (pth p k) (pth q k) = false) : sameL p q = false := decide_eq_false (fun e => of_decide_eq_false h (by rw [e]))
theorem sameL_all {p q : List (List I3)} {n : Nat} (hp : p.length = n) (hq : q.length = n) (h : ∀ j, j < n → sameP (pth p j) (pth q j) = true) : sameL p q = true := by
  refine decide_eq_true (List.ext_getElem (by omega) fun i h1 h2 => ?_)
  have := of_decide_eq_true (h i (by omega))
  rwa [pth_get h1, pth_get h2] at this
theorem all_next {q : Nat → Bool} {k : Nat} (h : ∀ j, j < k → q j = true) (hk : q k = true) : ∀ j, j < k + 1 → q j = true := fun j hj => by
  rcases Nat.lt_or_ge j k with h1 | h1
  · exact h j h1
  · obtain rfl : j = k := by omega
    exact hk

set_option maxHeartbeats 1000000 in
theorem equalP_any (A B : Option Addr) (n c m d : Nat) (p q : List I3) (w : World) (hp : Prog w A n c p) (hq : Prog w B m d q) :
    Calls Try.prog 56 #[.slice A n c, .slice B m d] w (RetB (.bool (sameP p q)) w) := by
  have HP := Lib.hid hp
  have HQ := Lib.hid hq
  have HN := Lib.hid hp.1
  have HM := Lib.hid hq.1
  have hn := Nat.le_trans hp.2.1.1 hp.2.1.2
  have hm := Nat.le_trans hq.2.1.1 hq.2.1.2
  clear hp hq
  by_cases hnm : n = m
  · obtain rfl : n = m := hnm
    go_enter Try.func56, Try.ntmps56
    go_wp2
    go_loopw [13] (fun t wr => EqRel (fun j => sameI (ith p j) (ith q j)) n w t wr) (fun t _ => n - (intOf t).toNat)
    case atStart => exact ⟨0, Nat.zero_le _, rfl, fun j hj => absurd hj (by omega), Below.refl _ _⟩
    case round =>
      obtain ⟨k, hk, rfl, heq, hb⟩ := hrel
      have HEQ := Lib.hid heq
      have HB := Lib.hid hb
      clear heq hb
      by_cases hlt : k < n
      · obtain ⟨b, o, rfl, hbl, g0, g1, g2⟩ := (HP.out.below HB.out).at_ hlt
        obtain ⟨b', o', rfl, hbl', g0', g1', g2'⟩ := (HQ.out.below HB.out).at_ hlt
        have HG : Hid (∀ U, Below wr.heap.size wr U → U.cell? ⟨b, o + k * 3, none⟩ = some (.int .i64 (jO p k)) ∧ U.cell? ⟨b, o + k * 3 + 1, none⟩ = some (.int .i64 (jA p k)) ∧ U.cell? ⟨b, o + k * 3 + 2, none⟩ = some (.int .i64 (jB p k))) :=
          Lib.hid (fun U hU => ⟨(hU.cell (p := ⟨b, _, none⟩) hbl).trans g0, (hU.cell (p := ⟨b, _, none⟩) hbl).trans g1, (hU.cell (p := ⟨b, _, none⟩) hbl).trans g2⟩)
        have HG' : Hid (∀ U, Below wr.heap.size wr U → U.cell? ⟨b', o' + k * 3, none⟩ = some (.int .i64 (jO q k)) ∧ U.cell? ⟨b', o' + k * 3 + 1, none⟩ = some (.int .i64 (jA q k)) ∧ U.cell? ⟨b', o' + k * 3 + 2, none⟩ = some (.int .i64 (jB q k))) :=
          Lib.hid (fun U hU => ⟨(hU.cell (p := ⟨b', _, none⟩) hbl').trans g0', (hU.cell (p := ⟨b', _, none⟩) hbl').trans g1', (hU.cell (p := ⟨b', _, none⟩) hbl').trans g2'⟩)
        clear g0 g1 g2 g0' g1' g2'
        go_wp2
        refine calm_region (S := fun U => Below wr.heap.size wr U) (by kernel_rfl) (Below.refl _ _).drew ?_
        refine calm_to (i := 0) (t := 16) (v := .slice (some ⟨b, o, none⟩) n c) rfl rfl (by kernel_rfl) (by kernel_rfl) (by kernel_rfl) (fun _ _ _ h => h) (calm_move rfl (.tmp 0) (.inl rfl) rfl) ?_
        simp only [List.setIfInBounds_toArray, List.set_cons_zero, List.set_cons_succ]
        refine calm_to (i := 1) (t := 17) (v := .int .i64 (k : Int)) rfl rfl (by kernel_rfl) (by kernel_rfl) (by kernel_rfl) (fun _ _ _ h => h) (calm_move rfl (.tmp 5) (.inl rfl) rfl) ?_
        simp only [List.setIfInBounds_toArray, List.set_cons_zero, List.set_cons_succ]
        refine calm_to (i := 2) (t := 18) (v := .pointer (some ⟨b, o + k * 3, none⟩)) rfl rfl (by kernel_rfl) (by kernel_rfl) (by kernel_rfl) (fun _ _ _ h => h) (calm_of rfl (fun U hU => by go_simp)) ?_
        simp only [List.setIfInBounds_toArray, List.set_cons_zero, List.set_cons_succ]
        refine calm_to (i := 3) (t := 19) (v := .agg #[.int .i64 (jO p k), .int .i64 (jA p k), .int .i64 (jB p k)]) rfl rfl (by kernel_rfl) (by kernel_rfl) (by kernel_rfl) (fun _ _ _ h => h) (calm_instr rfl (.tmp 18) rfl b _ rfl HG.out) ?_
        simp only [List.setIfInBounds_toArray, List.set_cons_zero, List.set_cons_succ]
        refine calm_to (i := 4) (t := 20) (v := .slice (some ⟨b', o', none⟩) n d) rfl rfl (by kernel_rfl) (by kernel_rfl) (by kernel_rfl) (fun _ _ _ h => h) (calm_move rfl (.tmp 1) (.inl rfl) rfl) ?_
        simp only [List.setIfInBounds_toArray, List.set_cons_zero, List.set_cons_succ]
        refine calm_to (i := 5) (t := 21) (v := .int .i64 (k : Int)) rfl rfl (by kernel_rfl) (by kernel_rfl) (by kernel_rfl) (fun _ _ _ h => h) (calm_move rfl (.tmp 5) (.inl rfl) rfl) ?_
        simp only [List.setIfInBounds_toArray, List.set_cons_zero, List.set_cons_succ]
        refine calm_to (i := 6) (t := 22) (v := .pointer (some ⟨b', o' + k * 3, none⟩)) rfl rfl (by kernel_rfl) (by kernel_rfl) (by kernel_rfl) (fun _ _ _ h => h) (calm_of rfl (fun U hU => by go_simp)) ?_
        simp only [List.setIfInBounds_toArray, List.set_cons_zero, List.set_cons_succ]
        refine calm_to (i := 7) (t := 23) (v := .agg #[.int .i64 (jO q k), .int .i64 (jA q k), .int .i64 (jB q k)]) rfl rfl (by kernel_rfl) (by kernel_rfl) (by kernel_rfl) (fun _ _ _ h => h) (calm_instr rfl (.tmp 22) rfl b' _ rfl HG'.out) ?_
        simp only [List.setIfInBounds_toArray, List.set_cons_zero, List.set_cons_succ]
        refine calm_to (i := 8) (t := 24) (v := .bool (!sameI (jO p k, jA p k, jB p k) (jO q k, jA q k, jB q k))) rfl rfl (by kernel_rfl) (by kernel_rfl) (by kernel_rfl) (fun _ _ _ h => h) (calm_of rfl (fun U hU => by have hne := neq_instr; go_simp)) ?_
        simp only [List.setIfInBounds_toArray, List.set_cons_zero, List.set_cons_succ]
        refine calm_done (by kernel_rfl) (fun U hU => ?_) _
        have HB2 := Lib.hid (below3 HB.out hU)
        clear hU
        by_cases hx : sameI (ith p k) (ith q k) = true
        · rw [show sameI (jO p k, jA p k, jB p k) (jO q k, jA q k, jB q k) = true from hx]
          have HX := Lib.hid (all_next (q := fun j => sameI (ith p j) (ith q j)) HEQ.out hx)
          clear hx
          go_wp2
          go_roundw
          case rel => exact ⟨k + 1, by omega, by go_num, HX.out, HB2.out⟩
          case measure => simp [intOf]; omega
        · have hx := bool_no hx
          rw [show sameI (jO p k, jA p k, jB p k) (jO q k, jA q k, jB q k) = false from hx]
          have HX := Lib.hid (sameP_at (p := p) (q := q) (k := k) (fun e => by rw [sameI_yes e] at hx; cases hx))
          clear hx
          go_wp2
          go_ret
          rw [HX.out]
          exact RetB.of rfl HB2.out
      · have HX := Lib.hid (sameP_all HN.out HM.out (fun j hj => HEQ.out j (by omega)))
        go_wp2
        go_ret
        rw [HX.out]
        exact RetB.of rfl HB.out
  · have HX := Lib.hid (sameP_len (p := p) (q := q) (by rw [HN.out, HM.out]; exact hnm))
    have h1 : ((n : Int) != (m : Int)) = true := by simp; omega
    go_enter Try.func56, Try.ntmps56
    go_wp2
    go_ret
    rw [HX.out]
    exact RetB.of rfl (Below.refl _ _)

set_option maxHeartbeats 1000000 in
theorem rsameOne_any (A B : Option Addr) (n c m d : Nat) (p q : List I3) (w : World) (hp : Prog w A n c p) (hq : Prog w B m d q) :
    Calls Try.prog 57 #[.slice A n c, .slice B m d] w (RetB (.bool (sameP p q)) w) := by
  have HP := Lib.hid hp
  have HQ := Lib.hid hq
  have HN := Lib.hid hp.1
  have HM := Lib.hid hq.1
  have hn := Nat.le_trans hp.2.1.1 hp.2.1.2
  have hm := Nat.le_trans hq.2.1.1 hq.2.1.2
  clear hp hq
  by_cases hnm : n = m
  · obtain rfl : n = m := hnm
    go_enter Try.func57, Try.ntmps57
    go_wp2
    go_loopw [13] (fun t wr => EqRel (fun j => sameI (ith p j) (ith q j)) n w t wr) (fun t _ => n - (intOf t).toNat)
    case atStart => exact ⟨0, Nat.zero_le _, rfl, fun j hj => absurd hj (by omega), Below.refl _ _⟩
    case round =>
      obtain ⟨k, hk, rfl, heq, hb⟩ := hrel
      have HEQ := Lib.hid heq
      have HB := Lib.hid hb
      clear heq hb
      by_cases hlt : k < n
      · obtain ⟨b, o, rfl, hbl, g0, g1, g2⟩ := (HP.out.below HB.out).at_ hlt
        obtain ⟨b', o', rfl, hbl', g0', g1', g2'⟩ := (HQ.out.below HB.out).at_ hlt
        have HG : Hid (∀ U, Below wr.heap.size wr U → U.cell? ⟨b, o + k * 3, none⟩ = some (.int .i64 (jO p k)) ∧ U.cell? ⟨b, o + k * 3 + 1, none⟩ = some (.int .i64 (jA p k)) ∧ U.cell? ⟨b, o + k * 3 + 2, none⟩ = some (.int .i64 (jB p k))) :=
          Lib.hid (fun U hU => ⟨(hU.cell (p := ⟨b, _, none⟩) hbl).trans g0, (hU.cell (p := ⟨b, _, none⟩) hbl).trans g1, (hU.cell (p := ⟨b, _, none⟩) hbl).trans g2⟩)
        have HG' : Hid (∀ U, Below wr.heap.size wr U → U.cell? ⟨b', o' + k * 3, none⟩ = some (.int .i64 (jO q k)) ∧ U.cell? ⟨b', o' + k * 3 + 1, none⟩ = some (.int .i64 (jA q k)) ∧ U.cell? ⟨b', o' + k * 3 + 2, none⟩ = some (.int .i64 (jB q k))) :=
          Lib.hid (fun U hU => ⟨(hU.cell (p := ⟨b', _, none⟩) hbl').trans g0', (hU.cell (p := ⟨b', _, none⟩) hbl').trans g1', (hU.cell (p := ⟨b', _, none⟩) hbl').trans g2'⟩)
        clear g0 g1 g2 g0' g1' g2'
        go_wp2
        refine calm_region (S := fun U => Below wr.heap.size wr U) (by kernel_rfl) (Below.refl _ _).drew ?_
        refine calm_to (i := 0) (t := 16) (v := .slice (some ⟨b, o, none⟩) n c) rfl rfl (by kernel_rfl) (by kernel_rfl) (by kernel_rfl) (fun _ _ _ h => h) (calm_move rfl (.tmp 0) (.inl rfl) rfl) ?_
        simp only [List.setIfInBounds_toArray, List.set_cons_zero, List.set_cons_succ]
        refine calm_to (i := 1) (t := 17) (v := .int .i64 (k : Int)) rfl rfl (by kernel_rfl) (by kernel_rfl) (by kernel_rfl) (fun _ _ _ h => h) (calm_move rfl (.tmp 5) (.inl rfl) rfl) ?_
        simp only [List.setIfInBounds_toArray, List.set_cons_zero, List.set_cons_succ]
        refine calm_to (i := 2) (t := 18) (v := .pointer (some ⟨b, o + k * 3, none⟩)) rfl rfl (by kernel_rfl) (by kernel_rfl) (by kernel_rfl) (fun _ _ _ h => h) (calm_of rfl (fun U hU => by go_simp)) ?_
        simp only [List.setIfInBounds_toArray, List.set_cons_zero, List.set_cons_succ]
        refine calm_to (i := 3) (t := 19) (v := .agg #[.int .i64 (jO p k), .int .i64 (jA p k), .int .i64 (jB p k)]) rfl rfl (by kernel_rfl) (by kernel_rfl) (by kernel_rfl) (fun _ _ _ h => h) (calm_instr rfl (.tmp 18) rfl b _ rfl HG.out) ?_
        simp only [List.setIfInBounds_toArray, List.set_cons_zero, List.set_cons_succ]
        refine calm_to (i := 4) (t := 20) (v := .slice (some ⟨b', o', none⟩) n d) rfl rfl (by kernel_rfl) (by kernel_rfl) (by kernel_rfl) (fun _ _ _ h => h) (calm_move rfl (.tmp 1) (.inl rfl) rfl) ?_
        simp only [List.setIfInBounds_toArray, List.set_cons_zero, List.set_cons_succ]
        refine calm_to (i := 5) (t := 21) (v := .int .i64 (k : Int)) rfl rfl (by kernel_rfl) (by kernel_rfl) (by kernel_rfl) (fun _ _ _ h => h) (calm_move rfl (.tmp 5) (.inl rfl) rfl) ?_
        simp only [List.setIfInBounds_toArray, List.set_cons_zero, List.set_cons_succ]
        refine calm_to (i := 6) (t := 22) (v := .pointer (some ⟨b', o' + k * 3, none⟩)) rfl rfl (by kernel_rfl) (by kernel_rfl) (by kernel_rfl) (fun _ _ _ h => h) (calm_of rfl (fun U hU => by go_simp)) ?_
        simp only [List.setIfInBounds_toArray, List.set_cons_zero, List.set_cons_succ]
        refine calm_to (i := 7) (t := 23) (v := .agg #[.int .i64 (jO q k), .int .i64 (jA q k), .int .i64 (jB q k)]) rfl rfl (by kernel_rfl) (by kernel_rfl) (by kernel_rfl) (fun _ _ _ h => h) (calm_instr rfl (.tmp 22) rfl b' _ rfl HG'.out) ?_
        simp only [List.setIfInBounds_toArray, List.set_cons_zero, List.set_cons_succ]
        refine calm_to (i := 8) (t := 24) (v := .bool (!sameI (jO p k, jA p k, jB p k) (jO q k, jA q k, jB q k))) rfl rfl (by kernel_rfl) (by kernel_rfl) (by kernel_rfl) (fun _ _ _ h => h) (calm_of rfl (fun U hU => by have hne := neq_instr; go_simp)) ?_
        simp only [List.setIfInBounds_toArray, List.set_cons_zero, List.set_cons_succ]
        refine calm_done (by kernel_rfl) (fun U hU => ?_) _
        have HB2 := Lib.hid (below3 HB.out hU)
        clear hU
        by_cases hx : sameI (ith p k) (ith q k) = true
        · rw [show sameI (jO p k, jA p k, jB p k) (jO q k, jA q k, jB q k) = true from hx]
          have HX := Lib.hid (all_next (q := fun j => sameI (ith p j) (ith q j)) HEQ.out hx)
          clear hx
          go_wp2
          go_roundw
          case rel => exact ⟨k + 1, by omega, by go_num, HX.out, HB2.out⟩
          case measure => simp [intOf]; omega
        · have hx := bool_no hx
          rw [show sameI (jO p k, jA p k, jB p k) (jO q k, jA q k, jB q k) = false from hx]
          have HX := Lib.hid (sameP_at (p := p) (q := q) (k := k) (fun e => by rw [sameI_yes e] at hx; cases hx))
          clear hx
          go_wp2
          go_ret
          rw [HX.out]
          exact RetB.of rfl HB2.out
      · have HX := Lib.hid (sameP_all HN.out HM.out (fun j hj => HEQ.out j (by omega)))
        go_wp2
        go_ret
        rw [HX.out]
        exact RetB.of rfl HB.out
  · have HX := Lib.hid (sameP_len (p := p) (q := q) (by rw [HN.out, HM.out]; exact hnm))
    have h1 : ((n : Int) != (m : Int)) = true := by simp; omega
    go_enter Try.func57, Try.ntmps57
    go_wp2
    go_ret
    rw [HX.out]
    exact RetB.of rfl (Below.refl _ _)

end Go.Proofs.Ytpfnoohcilefhaa

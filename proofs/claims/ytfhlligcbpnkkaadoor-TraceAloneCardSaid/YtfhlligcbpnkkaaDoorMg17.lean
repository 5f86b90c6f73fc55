import Derived.Test.YtfhlligcbpnkkaaDoorMg16
import Derived.Test.YtfhlligcbpnkkaaDoorMg5
import Derived.Test.YtfhlligcbpnkkaaDoorMg1
import Derived.Laws.StructEq
import Derived.Test.YtfhlligcbpnkkaaDoorMg11
import Derived.Test.YtfhlligcbpnkkaaDoorMg9
import Derived.Test.YtfhlligcbpnkkaaDoorMg7
import Derived.Test.YtfhlligcbpnkkaaDoorMg15

/-
  Layer 18, the program: Of and Count.
-/
namespace Go.Proofs.YtfhlligcbpnkkaaDoor
open Go.RowKit

set_option maxHeartbeats 1000000 in
theorem count_pr (A : Option Addr) (n c : Nat) (l : List I3) (q : Int) (w : World) (hp : Prog w A n c l) :
    Calls Tryd.prog 19 #[.slice A n c, .int .i64 q] w (RetB (.int .i64 (cntR l q : Int)) w) := by
  have HP := Lib.hid hp
  have LX := Lib.hid hp.1
  have hnc := hp.2.1
  clear hp
  go_enter Tryd.func19, Tryd.ntmps19
  go_wp2_with fail
  go_loopw [5, 10] (fun u t wr => ∃ k : Nat, k ≤ n ∧ t = .int .i64 k ∧ u = .int .i64 (cntR (l.take k) q : Int) ∧ Hid (Below w.heap.size w wr)) (fun _ t _ => n - (intOf t).toNat)
  case atStart => exact ⟨0, Nat.zero_le _, rfl, rfl, Lib.hid (Below.refl _ _)⟩
  case round =>
    rename World => wr
    obtain ⟨k, hk, rfl, rfl, BB⟩ := hrel
    by_cases hkn : k < n
    · obtain ⟨b, o, rfl, hb, c0, c1, c2⟩ := (HP.out.below BB.out).at_ hkn
      obtain ⟨f0, f1, f2⟩ := HP.out.fit hkn
      have hkl : k < l.length := by rw [LX.out]; exact hkn
      have hnx := cntR_next hkl q
      obtain ⟨⟨x, y, z⟩, hz⟩ : ∃ e, ith l k = e := ⟨_, rfl⟩
      have ex : jO l k = x := by unfold jO; rw [hz]
      have ey : jA l k = y := by unfold jA; rw [hz]
      have ez : jB l k = z := by unfold jB; rw [hz]
      rw [ex] at c0 f0
      rw [ey] at c1 f1
      rw [ez] at c2 f2
      rw [hz] at hnx
      dsimp only at hnx
      clear ex ey ez hz
      have FX : Hid (FitI (x, y, z)) := Lib.hid ⟨f0, f1, f2⟩
      have kt := Bk.new wr 41 #[.int .i64 x, .int .i64 y, .int .i64 z]
      have ba := (Below.refl wr.heap.size wr).alloc (Nat.le_refl _) (.cells #[.int .i64 x, .int .i64 y, .int .i64 z] 41)
      have hle : cntR (l.take k) q ≤ k := Nat.le_trans (cntR_le _ _) (by rw [List.length_take]; exact Nat.min_le_left _ _)
      obtain ⟨v, hv⟩ : ∃ v, cntR (l.take k) q = v := ⟨_, rfl⟩
      rw [hv] at hnx hle ⊢
      have e1 : IntKind.i64.wrap ((v : Int) + 1) = (v : Int) + 1 := by rw [IntKind.wrap_i64]; omega
      have B2 := Lib.hid (below3 BB.out ba)
      obtain ⟨W, hW⟩ : ∃ W, wr.alloc (.cells #[.int .i64 x, .int .i64 y, .int .i64 z] 41) = W := ⟨_, rfl⟩
      obtain ⟨g, hg⟩ : ∃ g, wr.heap.size = g := ⟨_, rfl⟩
      rw [hW] at kt B2
      rw [hg] at kt
      have HW := Lib.hid hW
      have HG := Lib.hid hg
      have KV := Lib.hid kt
      clear hW hg kt ba hv f0 f1 f2
      by_cases he : x = q
      · rw [if_pos he] at hnx
        have t0 : (x == q) = true := by simpa using he
        have HN := Lib.hid hnx
        clear he hnx
        go_upto_region 5 with fail
        rw [HW.out, HG.out]
        clear HW HG c0 c1 c2
        obtain ⟨q0, q1, q2⟩ := KV.out.c3t
        have lq := KV.out.lt
        go_wp2_with fail
        go_roundw
        case rel => exact ⟨k + 1, by omega, by go_num, by rw [HN.out]; go_num, B2⟩
        case measure => simp [intOf]; omega
      · rw [if_neg he] at hnx
        have t0 : (x == q) = false := by simpa using he
        have HN := Lib.hid hnx
        clear he hnx
        go_upto_region 5 with fail
        rw [HW.out, HG.out]
        clear HW HG c0 c1 c2
        obtain ⟨q0, q1, q2⟩ := KV.out.c3t
        have lq := KV.out.lt
        go_wp2_with fail
        go_roundw
        case rel => exact ⟨k + 1, by omega, by go_num, by rw [HN.out]; rfl, B2⟩
        case measure => simp [intOf]; omega
    · have HE : Hid (cntR (l.take k) q = cntR l q) := Lib.hid (by rw [List.take_of_length_le (by have := LX.out; omega)])
      go_wp2_with fail
      go_ret
      exact ⟨by rw [← HE.out]; rfl, BB.out⟩

set_option maxHeartbeats 1000000 in
theorem of_pr (A : Option Addr) (n c : Nat) (l : List I3) (q : Int) (w : World) (hn : n * 24 ≤ 140737488351232) (hp : Prog w A n c l) :
    Calls Tryd.prog 17 #[.slice A n c, .int .i64 q] w (NewEv (ofR l q) w) := by
  have HP := Lib.hid hp
  have LX := Lib.hid hp.1
  have hnc := hp.2.1
  clear hp
  go_enter Tryd.func17, Tryd.ntmps17
  go_wp2_with fail
  go_loopw [5, 10] (fun u t wr => ∃ (k : Nat) (D : Option Addr) (d : Nat), k ≤ n ∧ t = .int .i64 k ∧ u = .slice D (ofR (l.take k) q).length d ∧ Hid (Below w.heap.size w wr) ∧ Hid (OwnP 41 wr w.heap.size D d (ofR (l.take k) q))) (fun _ t _ => n - (intOf t).toNat)
  case atStart => exact ⟨0, none, 0, Nat.zero_le _, rfl, rfl, Lib.hid (Below.refl _ _), Lib.hid (OwnP.nil_ _ _ _)⟩
  case round =>
    rename World => wr
    obtain ⟨k, D, d, hk, rfl, rfl, BB, OD⟩ := hrel
    by_cases hkn : k < n
    · obtain ⟨b, o, rfl, hb, c0, c1, c2⟩ := (HP.out.below BB.out).at_ hkn
      obtain ⟨f0, f1, f2⟩ := HP.out.fit hkn
      have hkl : k < l.length := by rw [LX.out]; exact hkn
      have hnx := ofR_next hkl q
      obtain ⟨⟨x, y, z⟩, hz⟩ : ∃ e, ith l k = e := ⟨_, rfl⟩
      have ex : jO l k = x := by unfold jO; rw [hz]
      have ey : jA l k = y := by unfold jA; rw [hz]
      have ez : jB l k = z := by unfold jB; rw [hz]
      rw [ex] at c0 f0
      rw [ey] at c1 f1
      rw [ez] at c2 f2
      rw [hz] at hnx
      dsimp only at hnx
      clear ex ey ez hz
      have FX : Hid (FitI (x, y, z)) := Lib.hid ⟨f0, f1, f2⟩
      have kt := Bk.new wr 41 #[.int .i64 x, .int .i64 y, .int .i64 z]
      have ba := (Below.refl wr.heap.size wr).alloc (Nat.le_refl _) (.cells #[.int .i64 x, .int .i64 y, .int .i64 z] 41)
      have hle : (ofR (l.take k) q).length ≤ k := Nat.le_trans (ofR_len _ _) (by rw [List.length_take]; exact Nat.min_le_left _ _)
      obtain ⟨v, hv⟩ : ∃ v, ofR (l.take k) q = v := ⟨_, rfl⟩
      rw [hv] at hnx hle OD ⊢
      have B2 := Lib.hid (below3 BB.out ba)
      replace OD := Lib.hid (OD.out.below ba)
      obtain ⟨W, hW⟩ : ∃ W, wr.alloc (.cells #[.int .i64 x, .int .i64 y, .int .i64 z] 41) = W := ⟨_, rfl⟩
      obtain ⟨g, hg⟩ : ∃ g, wr.heap.size = g := ⟨_, rfl⟩
      rw [hW] at kt B2 OD
      rw [hg] at kt
      have HW := Lib.hid hW
      have HG := Lib.hid hg
      have KV := Lib.hid kt
      clear hW hg kt ba hv f0 f1 f2
      by_cases he : y = q
      · rw [if_pos he] at hnx
        have t0 : (y == q) = true := by simpa using he
        have HN := Lib.hid hnx
        clear he hnx
        go_upto_region 5 with fail
        rw [HW.out, HG.out]
        clear HW HG c0 c1 c2
        obtain ⟨q0, q1, q2⟩ := KV.out.c3t
        have lq := KV.out.lt
        have bl := Lib.hid ((Below.refl W.heap.size W).alloc (Nat.le_refl _) (.cells #[.int .i64 x, .int .i64 y, .int .i64 z] 41))
        go_wp2_with (at_builtin; refine wpList_append_prog _ rfl _ _ 23 rfl 41 _ rfl Tryd.underlying23 Tryd.evInfo w.heap.size D d v v.length rfl rfl (OD.out.below bl.out) (some ⟨W.heap.size, 0, none⟩) 1 1 [(x, y, z)] rfl (prog1_tr W 41 FX.out) (by omega) (Nat.le_trans B2.out.size bl.out.size) ?_; intro D1 d1 w1 ho hg; have HO := Lib.hid ho; have HB := Lib.hid ((below3 B2.out bl.out).grown hg (Nat.le_trans B2.out.size bl.out.size) (OD.out.blockT)); clear ho hg)
        go_roundw
        case rel => exact ⟨k + 1, D1, d1, by omega, by go_num, by rw [HN.out]; simp, HB, by rw [HN.out]; exact HO⟩
        case measure => simp [intOf]; omega
      · rw [if_neg he] at hnx
        have t0 : (y == q) = false := by simpa using he
        have HN := Lib.hid hnx
        clear he hnx
        go_upto_region 5 with fail
        rw [HW.out, HG.out]
        clear HW HG c0 c1 c2
        obtain ⟨q0, q1, q2⟩ := KV.out.c3t
        have lq := KV.out.lt
        go_wp2_with fail
        go_roundw
        case rel => exact ⟨k + 1, D, d, by omega, by go_num, by rw [HN.out], B2, by rw [HN.out]; exact OD⟩
        case measure => simp [intOf]; omega
    · have HE : Hid (ofR (l.take k) q = ofR l q) := Lib.hid (by rw [List.take_of_length_le (by have := LX.out; omega)])
      go_wp2_with fail
      go_ret
      exact ⟨D, d, by rw [← HE.out]; rfl, by rw [← HE.out]; exact OD.out, BB.out⟩

end Go.Proofs.YtfhlligcbpnkkaaDoor

/-
  Contracts of Same of layer 4, and of what the library compares slices by: the program's and the document's.
-/
namespace Go.Proofs.YtfhlligcbpnkkaaDoor
open Go.RowKit

/-- Are two instructions the same? -/
def sameI (x y : I3) : Bool := x.1 == y.1 && (x.2.1 == y.2.1 && x.2.2 == y.2.2)
theorem sameI_iff {x y : I3} : sameI x y = true ↔ x = y := by
  obtain ⟨a, b, c⟩ := x
  obtain ⟨a', b', c'⟩ := y
  simp [sameI]
theorem sameI_yes {x y : I3} (h : x = y) : sameI x y = true := sameI_iff.2 h
theorem sameI_no {x y : I3} (h : x ≠ y) : sameI x y = false := by
  cases hs : sameI x y with
  | false => rfl
  | true => exact absurd (sameI_iff.1 hs) h

theorem neq_instr (o a b o' a' b' : Int) (w : World) : (binOp .neq 50 (.agg #[.int .i64 o, .int .i64 a, .int .i64 b]) (.agg #[.int .i64 o', .int .i64 a', .int .i64 b'])).run Tryd.prog w = .ok (.bool (!sameI (o, a, b) (o', a', b'))) w := by
  have h1 : (Op.equalIn 10000 50 (.agg #[.int .i64 o, .int .i64 a, .int .i64 b]) (.agg #[.int .i64 o', .int .i64 a', .int .i64 b'])).run Tryd.prog w = .ok (sameI (o, a, b) (o', a', b')) w := by
    have hS : Tryd.prog.underlying 50 = some (.struct (Tryd.prog.fieldsOf 50)) := by kernel_rfl
    rw [run_equalIn_struct w 9999 50 _ _ hS (by kernel_rfl)]
    simp only [Program.fieldsOf, Tryd.underlying50]
    have u3 := Tryd.underlying3
    go_simp
    by_cases h1 : o = o' <;> by_cases h2 : a = a' <;> by_cases h3 : b = b' <;> simp [sameI, h1, h2, h3]
  rw [run_neq_struct, h1]
  rfl

/-- A struct of three cells, read. -/
theorem calm_instr {ops : Array Oper} {S : World → Prop} {o : Oper} {a : Act} (hw : Region.wanted o (yielded ops a.tmps) = true) (x : Operand) (ho : o.op = .load 50 x) (b k : Nat) (hx : a.eval x = .pointer (some ⟨b, k, none⟩)) {u v y : Int}
    (hS : ∀ w, S w → w.cell? ⟨b, k, none⟩ = some (.int .i64 u) ∧ w.cell? ⟨b, k + 1, none⟩ = some (.int .i64 v) ∧ w.cell? ⟨b, k + 2, none⟩ = some (.int .i64 y)) : Calm Tryd.prog ops S o (.agg #[.int .i64 u, .int .i64 v, .int .i64 y]) a :=
  calm_of hw fun w hw' => by
    obtain ⟨g0, g1, g2⟩ := hS w hw'
    unfold execOp
    simp only [ho, hx]
    go_simp

/-- A cell, read. -/
theorem calm_cell {ops : Array Oper} {S : World → Prop} {o : Oper} {a : Act} (hw : Region.wanted o (yielded ops a.tmps) = true) (x : Operand) (ho : o.op = .load 46 x) (b k : Nat) (hx : a.eval x = .pointer (some ⟨b, k, none⟩)) {B : Option Addr} {m c : Nat}
    (hS : ∀ w, S w → w.cell? ⟨b, k, none⟩ = some (.slice B m c)) : Calm Tryd.prog ops S o (.slice B m c) a :=
  calm_of hw fun w hw' => by
    have g0 := hS w hw'
    unfold execOp
    simp only [ho, hx]
    go_simp

/-- The relation of the loop: so far all are the same. -/
def EqRel (q : Nat → Bool) (n : Nat) (w : World) (t : Value) (wr : World) : Prop := ∃ k : Nat, k ≤ n ∧ t = .int .i64 k ∧ (∀ j, j < k → q j = true) ∧ Below w.heap.size w wr

theorem sameP_len {p q : List I3} (h : p.length ≠ q.length) : sameP p q = false := decide_eq_false (fun e => h (by rw [e]))
theorem sameP_at {p q : List I3} {k : Nat} (h : ith p k ≠ ith q k) : sameP p q = false := decide_eq_false (fun e => h (by rw [e]))
theorem sameP_all {p q : List I3} {n : Nat} (hp : p.length = n) (hq : q.length = n) (h : ∀ j, j < n → sameI (ith p j) (ith q j) = true) : sameP p q = true := by
  refine decide_eq_true (List.ext_getElem (by omega) fun i h1 h2 => ?_)
  have := sameI_iff.1 (h i (by omega))
  rwa [ith_get h1, ith_get h2] at this
theorem sameL_len {p q : List (List I3)} (h : p.length ≠ q.length) : sameL p q = false := decide_eq_false (fun e => h (by rw [e]))
theorem sameL_at {p q : List (List I3)} {k : Nat} (h : sameP (pth p k) (pth q k) = false) : sameL p q = false := decide_eq_false (fun e => of_decide_eq_false h (by rw [e]))
theorem sameL_all {p q : List (List I3)} {n : Nat} (hp : p.length = n) (hq : q.length = n) (h : ∀ j, j < n → sameP (pth p j) (pth q j) = true) : sameL p q = true := by
  refine decide_eq_true (List.ext_getElem (by omega) fun i h1 h2 => ?_)
  have := of_decide_eq_true (h i (by omega))
  rwa [pth_get h1, pth_get h2] at this
theorem all_next {q : Nat → Bool} {k : Nat} (h : ∀ j, j < k → q j = true) (hk : q k = true) : ∀ j, j < k + 1 → q j = true := fun j hj => by
  rcases Nat.lt_or_ge j k with h1 | h1
  · exact h j h1
  · obtain rfl : j = k := by omega
    exact hk

end Go.Proofs.YtfhlligcbpnkkaaDoor

/-
  Layer 18, the document: Same of events.
-/
namespace Go.Proofs.YtfhlligcbpnkkaaDoor
open Go.RowKit

theorem neq_event (o a b o' a' b' : Int) (w : World) : (binOp .neq 41 (.agg #[.int .i64 o, .int .i64 a, .int .i64 b]) (.agg #[.int .i64 o', .int .i64 a', .int .i64 b'])).run Tryd.prog w = .ok (.bool (!sameI (o, a, b) (o', a', b'))) w := by
  have h1 : (Op.equalIn 10000 41 (.agg #[.int .i64 o, .int .i64 a, .int .i64 b]) (.agg #[.int .i64 o', .int .i64 a', .int .i64 b'])).run Tryd.prog w = .ok (sameI (o, a, b) (o', a', b')) w := by
    have hS : Tryd.prog.underlying 41 = some (.struct (Tryd.prog.fieldsOf 41)) := by kernel_rfl
    rw [run_equalIn_struct w 9999 41 _ _ hS (by kernel_rfl)]
    simp only [Program.fieldsOf, Tryd.underlying41]
    have u3 := Tryd.underlying3
    have u4 := Tryd.underlying2
    go_simp
    by_cases h1 : o = o' <;> by_cases h2 : a = a' <;> by_cases h3 : b = b' <;> simp [sameI, h1, h2, h3]
  rw [run_neq_struct, h1]
  rfl

/-- A struct of three cells, read. -/
theorem calm_event {ops : Array Oper} {S : World → Prop} {o : Oper} {a : Act} (hw : Region.wanted o (yielded ops a.tmps) = true) (x : Operand) (ho : o.op = .load 41 x) (b k : Nat) (hx : a.eval x = .pointer (some ⟨b, k, none⟩)) {u v y : Int}
    (hS : ∀ w, S w → w.cell? ⟨b, k, none⟩ = some (.int .i64 u) ∧ w.cell? ⟨b, k + 1, none⟩ = some (.int .i64 v) ∧ w.cell? ⟨b, k + 2, none⟩ = some (.int .i64 y)) : Calm Tryd.prog ops S o (.agg #[.int .i64 u, .int .i64 v, .int .i64 y]) a :=
  calm_of hw fun w hw' => by
    obtain ⟨g0, g1, g2⟩ := hS w hw'
    unfold execOp
    simp only [ho, hx]
    go_simp

set_option maxHeartbeats 1000000 in
theorem same_tr (A B : Option Addr) (n c m d : Nat) (p q : List I3) (w : World) (hp : Prog w A n c p) (hq : Prog w B m d q) :
    Calls Tryd.prog 16 #[.slice A n c, .slice B m d] w (RetB (.bool (sameP p q)) w) := by
  have HP := Lib.hid hp
  have HQ := Lib.hid hq
  have HN := Lib.hid hp.1
  have HM := Lib.hid hq.1
  have hn := Nat.le_trans hp.2.1.1 hp.2.1.2
  have hm := Nat.le_trans hq.2.1.1 hq.2.1.2
  clear hp hq
  by_cases hnm : n = m
  · obtain rfl : n = m := hnm
    go_enter Tryd.func16, Tryd.ntmps16
    go_wp2
    go_loopw [13] (fun t wr => EqRel (fun j => sameI (ith p j) (ith q j)) n w t wr) (fun t _ => n - (intOf t).toNat)
    case atStart => exact ⟨0, Nat.zero_le _, rfl, fun j hj => absurd hj (by omega), Below.refl _ _⟩
    case round =>
      obtain ⟨k, hk, rfl, heq, hb⟩ := hrel
      have HEQ := Lib.hid heq
      have HB := Lib.hid hb
      clear heq hb
      by_cases hlt : k < n
      · obtain ⟨b, o, rfl, hbl, g0, g1, g2⟩ := (HP.out.below HB.out).at_ hlt
        obtain ⟨b', o', rfl, hbl', g0', g1', g2'⟩ := (HQ.out.below HB.out).at_ hlt
        have HG : Hid (∀ U, Below wr.heap.size wr U → U.cell? ⟨b, o + k * 3, none⟩ = some (.int .i64 (jO p k)) ∧ U.cell? ⟨b, o + k * 3 + 1, none⟩ = some (.int .i64 (jA p k)) ∧ U.cell? ⟨b, o + k * 3 + 2, none⟩ = some (.int .i64 (jB p k))) :=
          Lib.hid (fun U hU => ⟨(hU.cell (p := ⟨b, _, none⟩) hbl).trans g0, (hU.cell (p := ⟨b, _, none⟩) hbl).trans g1, (hU.cell (p := ⟨b, _, none⟩) hbl).trans g2⟩)
        have HG' : Hid (∀ U, Below wr.heap.size wr U → U.cell? ⟨b', o' + k * 3, none⟩ = some (.int .i64 (jO q k)) ∧ U.cell? ⟨b', o' + k * 3 + 1, none⟩ = some (.int .i64 (jA q k)) ∧ U.cell? ⟨b', o' + k * 3 + 2, none⟩ = some (.int .i64 (jB q k))) :=
          Lib.hid (fun U hU => ⟨(hU.cell (p := ⟨b', _, none⟩) hbl').trans g0', (hU.cell (p := ⟨b', _, none⟩) hbl').trans g1', (hU.cell (p := ⟨b', _, none⟩) hbl').trans g2'⟩)
        clear g0 g1 g2 g0' g1' g2'
        go_wp2
        refine calm_region (S := fun U => Below wr.heap.size wr U) (by kernel_rfl) (Below.refl _ _).drew ?_
        refine calm_to (i := 0) (t := 16) (v := .slice (some ⟨b, o, none⟩) n c) rfl rfl (by kernel_rfl) (by kernel_rfl) (by kernel_rfl) (fun _ _ _ h => h) (calm_move rfl (.tmp 0) (.inl rfl) rfl) ?_
        simp only [List.setIfInBounds_toArray, List.set_cons_zero, List.set_cons_succ]
        refine calm_to (i := 1) (t := 17) (v := .int .i64 (k : Int)) rfl rfl (by kernel_rfl) (by kernel_rfl) (by kernel_rfl) (fun _ _ _ h => h) (calm_move rfl (.tmp 5) (.inl rfl) rfl) ?_
        simp only [List.setIfInBounds_toArray, List.set_cons_zero, List.set_cons_succ]
        refine calm_to (i := 2) (t := 18) (v := .pointer (some ⟨b, o + k * 3, none⟩)) rfl rfl (by kernel_rfl) (by kernel_rfl) (by kernel_rfl) (fun _ _ _ h => h) (calm_of rfl (fun U hU => by go_simp)) ?_
        simp only [List.setIfInBounds_toArray, List.set_cons_zero, List.set_cons_succ]
        refine calm_to (i := 3) (t := 19) (v := .agg #[.int .i64 (jO p k), .int .i64 (jA p k), .int .i64 (jB p k)]) rfl rfl (by kernel_rfl) (by kernel_rfl) (by kernel_rfl) (fun _ _ _ h => h) (calm_event rfl (.tmp 18) rfl b _ rfl HG.out) ?_
        simp only [List.setIfInBounds_toArray, List.set_cons_zero, List.set_cons_succ]
        refine calm_to (i := 4) (t := 20) (v := .slice (some ⟨b', o', none⟩) n d) rfl rfl (by kernel_rfl) (by kernel_rfl) (by kernel_rfl) (fun _ _ _ h => h) (calm_move rfl (.tmp 1) (.inl rfl) rfl) ?_
        simp only [List.setIfInBounds_toArray, List.set_cons_zero, List.set_cons_succ]
        refine calm_to (i := 5) (t := 21) (v := .int .i64 (k : Int)) rfl rfl (by kernel_rfl) (by kernel_rfl) (by kernel_rfl) (fun _ _ _ h => h) (calm_move rfl (.tmp 5) (.inl rfl) rfl) ?_
        simp only [List.setIfInBounds_toArray, List.set_cons_zero, List.set_cons_succ]
        refine calm_to (i := 6) (t := 22) (v := .pointer (some ⟨b', o' + k * 3, none⟩)) rfl rfl (by kernel_rfl) (by kernel_rfl) (by kernel_rfl) (fun _ _ _ h => h) (calm_of rfl (fun U hU => by go_simp)) ?_
        simp only [List.setIfInBounds_toArray, List.set_cons_zero, List.set_cons_succ]
        refine calm_to (i := 7) (t := 23) (v := .agg #[.int .i64 (jO q k), .int .i64 (jA q k), .int .i64 (jB q k)]) rfl rfl (by kernel_rfl) (by kernel_rfl) (by kernel_rfl) (fun _ _ _ h => h) (calm_event rfl (.tmp 22) rfl b' _ rfl HG'.out) ?_
        simp only [List.setIfInBounds_toArray, List.set_cons_zero, List.set_cons_succ]
        refine calm_to (i := 8) (t := 24) (v := .bool (!sameI (jO p k, jA p k, jB p k) (jO q k, jA q k, jB q k))) rfl rfl (by kernel_rfl) (by kernel_rfl) (by kernel_rfl) (fun _ _ _ h => h) (calm_of rfl (fun U hU => by have hne := neq_event; go_simp)) ?_
        simp only [List.setIfInBounds_toArray, List.set_cons_zero, List.set_cons_succ]
        refine calm_done (by kernel_rfl) (fun U hU => ?_) _
        have HB2 := Lib.hid (below3 HB.out hU)
        clear hU
        by_cases hx : sameI (ith p k) (ith q k) = true
        · rw [show sameI (jO p k, jA p k, jB p k) (jO q k, jA q k, jB q k) = true from hx]
          have HX := Lib.hid (all_next (q := fun j => sameI (ith p j) (ith q j)) HEQ.out hx)
          clear hx
          go_wp2
          go_roundw
          case rel => exact ⟨k + 1, by omega, by go_num, HX.out, HB2.out⟩
          case measure => simp [intOf]; omega
        · have hx := bool_no hx
          rw [show sameI (jO p k, jA p k, jB p k) (jO q k, jA q k, jB q k) = false from hx]
          have HX := Lib.hid (sameP_at (p := p) (q := q) (k := k) (fun e => by rw [sameI_yes e] at hx; cases hx))
          clear hx
          go_wp2
          go_ret
          rw [HX.out]
          exact RetB.of rfl HB2.out
      · have HX := Lib.hid (sameP_all HN.out HM.out (fun j hj => HEQ.out j (by omega)))
        go_wp2
        go_ret
        rw [HX.out]
        exact RetB.of rfl HB.out
  · have HX := Lib.hid (sameP_len (p := p) (q := q) (by rw [HN.out, HM.out]; exact hnm))
    have h1 : ((n : Int) != (m : Int)) = true := by simp; omega
    go_enter Tryd.func16, Tryd.ntmps16
    go_wp2
    go_ret
    rw [HX.out]
    exact RetB.of rfl (Below.refl _ _)

end Go.Proofs.YtfhlligcbpnkkaaDoor

/-
  Layer 18, the document: a task's own life: words, and the loop's body.
-/
namespace Go.Proofs.YtfhlligcbpnkkaaDoor
open Go.RowKit

theorem oneT_next {P : List (List I3)} {m : List I3} {k : Nat} (hk : 0 < k) (hkm : k < m.length) {t : Tk} (ht : oneT P (m.take k) = some t) : oneT P (m.take (k + 1)) = stepT P t (ith m (k - 1)) (ith m k) := by
  have hlen : (m.take k).length = k := by rw [List.length_take]; omega
  obtain ⟨x, r, hxr⟩ : ∃ x r, m.take k = x :: r := by
    cases hc : m.take k with
    | nil => rw [hc] at hlen; simp at hlen; omega
    | cons x r => exact ⟨x, r, rfl⟩
  have hlast : (x :: r).getLastD x = ith m (k - 1) := by
    rw [← hxr, List.getLastD_eq_getLast?, List.getLast?_eq_getElem?, hlen]
    have : (m.take k)[k - 1]? = some (ith m (k - 1)) := by
      rw [List.getElem?_take, if_pos (by omega), List.getElem?_eq_getElem (by omega), ith_get (by omega)]
    rw [this]; rfl
  rw [ith_takeT (by omega), hxr, oneT_snoc (by rw [← hxr]; exact ht), hlast]
theorem oneT_first {P : List (List I3)} {m : List I3} (hm : 0 < m.length) : oneT P (m.take 1) = bornT P (ith m 0) := by
  have e1 : m.take (0 + 1) = [ith m 0] := by rw [ith_takeT (by omega)]; simp
  rw [show (1 : Nat) = 0 + 1 from rfl, e1, oneT]
  cases bornT P (ith m 0) <;> rfl
theorem oneT_none {P : List (List I3)} {m : List I3} {k : Nat} (h : oneT P (m.take k) = none) : oneT P m = none := by
  cases e : oneT P m with
  | none => rfl
  | some t =>
    have : (oneT P (m.take k ++ m.drop k)).isSome = true := by rw [List.take_append_drop, e]; rfl
    have := oneT_prefix this
    rw [h] at this
    cases this
/-- What One hands back. -/
def OneP (P : List (List I3)) (l : List I3) (w : World) (e : Ending) (w' : World) : Prop := ∃ t : Tk, e = .returned (.tuple #[.agg (tc t), .bool (oneT P l).isSome]) ∧ (∀ u, oneT P l = some u → t = u) ∧ Below w.heap.size w w'

/-- The body of the first loop of a code. -/
def loopOf : Code → Option Code
  | .loop c => some c
  | .seq a b => match loopOf a with
    | some c => some c
    | none => loopOf b
  | .block _ c => loopOf c
  | .scope c => loopOf c
  | .cond _ a b => match loopOf a with
    | some c => some c
    | none => loopOf b
  | _ => none
noncomputable def oneBody : Code := ((Tryd.f27.body.bind loopOf).getD .skip)

end Go.Proofs.YtfhlligcbpnkkaaDoor

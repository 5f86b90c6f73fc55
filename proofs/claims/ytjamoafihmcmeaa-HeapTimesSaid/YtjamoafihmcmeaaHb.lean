/-
  Layer 8, the program's rows that it writes into: a timer that rises, the first one of a place and those below it, a timer that sinks.
-/
import Derived.Test.YtjamoafihmcmeaaHa
import Derived.Test.YtjamoafihmcmeaaHm
import Derived.Deep.QuietTactic
import Derived.Laws.OwnMore
import Derived.Test.YtjamoafihmcmeaaCalmX
namespace Go.Proofs.Ytjamoafihmcmeaa
open Go.RowKit

abbrev RowT (w : World) (base g c : Nat) (l : List Tm) : Prop := OwnT 24 w base (some ⟨g, 0, none⟩) c l
/-- Two stores: a timer at a place of a row. -/
def put2 (w : World) (g i : Nat) (x : Tm) : World := (w.setCell ⟨g, i * 2, none⟩ (.int .i64 x.1)).setCell ⟨g, i * 2 + 1, none⟩ (.int .i64 x.2)
theorem gb_trans {a b d : World} {r : Option Nat} (h : a.grownBy b r) (k : b.grownBy d r) : a.grownBy d r :=
  ⟨k.os.trans h.os, k.tape.trans h.tape, k.output.trans h.output, Nat.le_trans h.size k.size, fun i hi hr => (k.block i (Nat.lt_of_lt_of_le hi h.size) hr).trans (h.block i hi hr)⟩
theorem Below.gb {w w' : World} {row : Option Nat} (h : Below w.heap.size w w') : w.grownBy w' row := ⟨h.os, h.tape, h.output, h.size, fun k hk _ => h.block k hk⟩
theorem put2_grown (w : World) (g i : Nat) (x : Tm) : w.grownBy (put2 w g i x) (some g) := gb_trans (grown_set _) (grown_set _)
theorem cellsP_set : ∀ (l : List Tm) (i : Nat) (x : Tm), ((cellsP l).set (i * 2) (.int .i64 x.1)).set (i * 2 + 1) (.int .i64 x.2) = cellsP (l.set i x)
  | [], _, _ => by simp [cellsP]
  | t :: l, 0, x => by simp [cellsP, cells2]
  | t :: l, i + 1, x => by
    have ih := cellsP_set l i x
    have e : cellsP (t :: l) = [Value.int .i64 t.1, .int .i64 t.2] ++ cellsP l := by simp [cellsP, cells2]
    have e2 : cellsP ((t :: l).set (i + 1) x) = [Value.int .i64 t.1, .int .i64 t.2] ++ cellsP (l.set i x) := by simp [cellsP, cells2]
    rw [e, e2, ← ih, show (i + 1) * 2 = i * 2 + 2 by omega]
    simp
theorem OwnT.put {w : World} {base g c : Nat} {l : List Tm} (h : RowT w base g c l) (i : Nat) {x : Tm} (hx : FitI x) : RowT (put2 w g i x) base g c (l.set i x) := by
  obtain ⟨h1, h2, h3⟩ := h
  refine ⟨by rw [List.length_set]; exact h1, fun y hy => ?_, ?_⟩
  · rcases List.mem_or_eq_of_mem_set hy with h | h
    · exact h2 y h
    · rw [h]; exact hx
  · have a := (h3.stored (i * 2) (.int .i64 x.1)).1
    have b := (a.stored (i * 2 + 1) (.int .i64 x.2)).1
    rw [cellsP_set] at b
    rw [List.length_set]
    exact b
theorem OwnT.at2 {w : World} {base g c : Nat} {l : List Tm} (h : RowT w base g c l) {i : Nat} (hi : i < l.length) :
    w.cell? ⟨g, i * 2, none⟩ = some (.int .i64 (jO l i)) ∧ w.cell? ⟨g, i * 2 + 1, none⟩ = some (.int .i64 (jA l i)) ∧ w.frozen? ⟨g, i * 2, none⟩ = false ∧ w.frozen? ⟨g, i * 2 + 1, none⟩ = false := by
  obtain ⟨d0, d1⟩ := cellsP_at l hi
  have g0 := h.2.2.cells (g := g) rfl _ _ d0
  have g1 := h.2.2.cells (g := g) rfl _ _ d1
  rw [Addr.add_lit] at g0 g1
  rw [Nat.zero_add] at g0 g1
  exact ⟨g0, g1, h.2.2.frozenAt _, h.2.2.frozenAt _⟩
theorem OwnT.fit {w : World} {base g c : Nat} {l : List Tm} (h : RowT w base g c l) {i : Nat} (hi : i < l.length) : FitI (ith l i) := by
  rw [ith_get hi]; exact h.2.1 _ (List.getElem_mem hi)
theorem OwnT.lt {w : World} {base g c : Nat} {l : List Tm} (h : RowT w base g c l) : base ≤ g ∧ g < w.heap.size := h.2.2.lt g rfl
theorem OwnT.cap {w : World} {base g c : Nat} {l : List Tm} (h : RowT w base g c l) : l.length ≤ c ∧ c ≤ 9223372036854775807 := h.tms.2.1
/-- What is read of one place of a row. -/
theorem OwnT.here {w : World} {base g c : Nat} {l : List Tm} (h : RowT w base g c l) {i : Nat} (hi : i < l.length) {a b : Int} (e : ith l i = (a, b)) :
    w.cell? ⟨g, i * 2, none⟩ = some (.int .i64 a) ∧ w.cell? ⟨g, i * 2 + 1, none⟩ = some (.int .i64 b) := by
  obtain ⟨h0, h1, _⟩ := h.at2 hi
  unfold jO at h0
  unfold jA at h1
  rw [e] at h0 h1
  exact ⟨h0, h1⟩
def RiseP (w : World) (base g c : Nat) (l : List Tm) (R : List Tm → Prop) (e : Ending) (w' : World) : Prop :=
  e = .returned (.tuple #[]) ∧ ∃ r, R r ∧ r.length = l.length ∧ RowT w' base g c r ∧ w.grownBy w' (some g)

set_option maxHeartbeats 2000000 in
theorem rise_any (base g c : Nat) (l : List Tm) (i : Nat) (w : World) (ho : RowT w base g c l) (hi : i < l.length) (hn : l.length ≤ 1000) :
    Calls Try.prog 35 #[.slice (some ⟨g, 0, none⟩) l.length c, .int .i64 (i : Int)] w (RiseP w base g c l (Rise l i)) := by
  have HO := Lib.hid ho
  have HI := Lib.hid hi
  have HN := Lib.hid hn
  obtain ⟨n, hln⟩ : ∃ n, l.length = n := ⟨_, rfl⟩
  rw [hln]
  have HL0 := Lib.hid hln
  clear ho hi hn hln
  go_enter Try.func35, Try.ntmps35
  go_wp2_with fail
  go_loopw [1] (fun t wr => ∃ (j : Nat) (m : List Tm), t = .int .i64 (j : Int) ∧ Hid (j < m.length) ∧ Hid (m.length = n) ∧ Hid (∀ r, Rise m j r → Rise l i r) ∧ Hid (RowT wr base g c m) ∧ Hid (w.grownBy wr (some g))) (fun t _ => (intOf t).toNat)
  case atStart => exact ⟨i, l, rfl, HI, HL0, Lib.hid (fun r h => h), HO, Lib.hid ⟨rfl, rfl, rfl, Nat.le_refl _, fun _ _ _ => rfl⟩⟩
  case round =>
    clear HO HI
    rename World => wr
    obtain ⟨j, m, rfl, HJ, HLM, HR, HO, HG⟩ := hrel
    have hjn : j < n := by rw [← HLM.out]; exact HJ.out
    have hn1 : n ≤ 1000 := by rw [← HL0.out]; exact HN.out
    have HJB := Lib.hid (show j < 2000 by omega)
    obtain ⟨⟨x1, x2⟩, hx⟩ : ∃ x, ith m j = x := ⟨_, rfl⟩
    have HX := Lib.hid hx
    clear hx
    by_cases h0 : 0 < j
    · have HJ0 := Lib.hid h0
      have hp := par_lt h0
      have hpn : par j < n := by omega
      have HP := Lib.hid (show par j < m.length by rw [HLM.out]; exact hpn)
      obtain ⟨⟨y1, y2⟩, hy⟩ : ∃ y, ith m (par j) = y := ⟨_, rfl⟩
      have HY := Lib.hid hy
      clear hy
      have t0 : decide (0 < (j : Int)) = true := decide_eq_true (by omega)
      by_cases hl : lessT (x1, x2) (y1, y2)
      · have HL := Lib.hid (decide_eq_true hl)
        have HLT := Lib.hid hl
        clear hl
        go_wp2_with fail
        refine calm_region (S := fun U => Below wr.heap.size wr U) (by kernel_rfl) (Below.refl _ _).drew ?_
        refine calm_to (i := 0) (t := 4) (v := .int .i64 (j : Int)) rfl rfl (by kernel_rfl) (by kernel_rfl) (by kernel_rfl) (fun _ _ _ h => h) (calm_move (by kernel_rfl) (.tmp 1) (.inl rfl) rfl) ?_
        simp only [List.setIfInBounds_toArray, List.set_cons_zero, List.set_cons_succ]
        refine calm_to (i := 1) (t := 5) (v := .bool true) rfl rfl (by kernel_rfl) (by kernel_rfl) (by kernel_rfl) (fun _ _ _ h => h) (calm_of (by kernel_rfl) (fun U hU => by go_simp)) ?_
        simp only [List.setIfInBounds_toArray, List.set_cons_zero, List.set_cons_succ]
        refine calm_to (i := 2) (t := 6) (v := .bool true) rfl rfl (by kernel_rfl) (by kernel_rfl) (by kernel_rfl) (fun _ _ _ h => h) (calm_move (by kernel_rfl) (.tmp 5) (.inl rfl) rfl) ?_
        simp only [List.setIfInBounds_toArray, List.set_cons_zero, List.set_cons_succ]
        refine calm_to (i := 3) (t := 7) (v := .slice (some ⟨g, 0, none⟩) n c) rfl rfl (by kernel_rfl) (by kernel_rfl) (by kernel_rfl) (fun _ _ _ h => h) (calm_move (by kernel_rfl) (.tmp 0) (.inl rfl) rfl) ?_
        simp only [List.setIfInBounds_toArray, List.set_cons_zero, List.set_cons_succ]
        refine calm_to (i := 4) (t := 8) (v := .int .i64 (j : Int)) rfl rfl (by kernel_rfl) (by kernel_rfl) (by kernel_rfl) (fun _ _ _ h => h) (calm_move (by kernel_rfl) (.tmp 1) (.inl rfl) rfl) ?_
        simp only [List.setIfInBounds_toArray, List.set_cons_zero, List.set_cons_succ]
        refine calm_to (i := 5) (t := 9) (v := .pointer (some ⟨g, j * 2, none⟩)) rfl rfl (by kernel_rfl) (by kernel_rfl) (by kernel_rfl) (fun _ _ _ h => h) (calm_of (by kernel_rfl) (fun U hU => by go_simp)) ?_
        simp only [List.setIfInBounds_toArray, List.set_cons_zero, List.set_cons_succ]
        refine calm_to (i := 6) (t := 10) (v := .agg #[.int .i64 x1, .int .i64 x2]) rfl rfl (by kernel_rfl) (by kernel_rfl) (by kernel_rfl) (fun _ _ _ h => h) (calm_of (by kernel_rfl) (fun U hU => by obtain ⟨q0, q1⟩ := (HO.out.below hU).here HJ.out HX.out; go_simp)) ?_
        simp only [List.setIfInBounds_toArray, List.set_cons_zero, List.set_cons_succ]
        refine calm_to (i := 7) (t := 11) (v := .slice (some ⟨g, 0, none⟩) n c) rfl rfl (by kernel_rfl) (by kernel_rfl) (by kernel_rfl) (fun _ _ _ h => h) (calm_move (by kernel_rfl) (.tmp 0) (.inl rfl) rfl) ?_
        simp only [List.setIfInBounds_toArray, List.set_cons_zero, List.set_cons_succ]
        refine calm_to (i := 8) (t := 12) (v := .int .i64 (j : Int)) rfl rfl (by kernel_rfl) (by kernel_rfl) (by kernel_rfl) (fun _ _ _ h => h) (calm_move (by kernel_rfl) (.tmp 1) (.inl rfl) rfl) ?_
        simp only [List.setIfInBounds_toArray, List.set_cons_zero, List.set_cons_succ]
        refine calm_to (i := 9) (t := 13) (v := .int .i64 ((par j : Nat) : Int)) rfl rfl (by kernel_rfl) (by kernel_rfl) (by kernel_rfl) (fun _ _ _ h => h) (calm_call1 (by kernel_rfl) 48 (.tmp 12) #[3] rfl (enters_of Try.func48 (by kernel_rfl) rfl) (.int .i64 (j : Int)) rfl (fun U hU => (above_any j HJ0.out HJB.out U).mono fun _ _ q => ⟨q.1, hU.trans (q.2.mono hU.size)⟩)) ?_
        simp only [List.setIfInBounds_toArray, List.set_cons_zero, List.set_cons_succ]
        refine calm_to (i := 10) (t := 14) (v := .pointer (some ⟨g, par j * 2, none⟩)) rfl rfl (by kernel_rfl) (by kernel_rfl) (by kernel_rfl) (fun _ _ _ h => h) (calm_of (by kernel_rfl) (fun U hU => by go_simp)) ?_
        simp only [List.setIfInBounds_toArray, List.set_cons_zero, List.set_cons_succ]
        refine calm_to (i := 11) (t := 15) (v := .agg #[.int .i64 y1, .int .i64 y2]) rfl rfl (by kernel_rfl) (by kernel_rfl) (by kernel_rfl) (fun _ _ _ h => h) (calm_of (by kernel_rfl) (fun U hU => by obtain ⟨q0, q1⟩ := (HO.out.below hU).here HP.out HY.out; go_simp)) ?_
        simp only [List.setIfInBounds_toArray, List.set_cons_zero, List.set_cons_succ]
        refine calm_to (i := 12) (t := 16) (v := .bool true) rfl rfl (by kernel_rfl) (by kernel_rfl) (by kernel_rfl) (fun _ _ _ h => h) (calm_call2 (by kernel_rfl) 47 (.tmp 10) (.tmp 15) #[24, 24] rfl (enters_of Try.func47 (by kernel_rfl) rfl) (.agg #[.int .i64 x1, .int .i64 x2]) (.agg #[.int .i64 y1, .int .i64 y2]) rfl rfl (fun U hU => (ahead_any x1 x2 y1 y2 U).mono fun _ _ q => ⟨by rw [q.1, HL.out], hU.trans (q.2.mono hU.size)⟩)) ?_
        simp only [List.setIfInBounds_toArray, List.set_cons_zero, List.set_cons_succ]
        refine calm_to (i := 13) (t := 17) (v := .bool true) rfl rfl (by kernel_rfl) (by kernel_rfl) (by kernel_rfl) (fun _ _ _ h => h) (calm_pick (by kernel_rfl) (.tmp 6) (.tmp 16) (.const (.bool false)) rfl true rfl rfl) ?_
        simp only [List.setIfInBounds_toArray, List.set_cons_zero, List.set_cons_succ]
        refine calm_done (by kernel_rfl) (fun U hU => ?_) _
        have HU := Lib.hid hU
        have HO1 := Lib.hid (HO.out.below hU)
        have HG1 := Lib.hid (gb_trans HG.out (Below.gb hU))
        clear hU HO HG
        go_wp2_with fail
        refine wp_region_any (by kernel_rfl) ?_
        refine any_at (i := 2) (d := 20) (v := .slice (some ⟨g, 0, none⟩) n c) rfl rfl (by kernel_rfl) (by kernel_rfl) (by kernel_rfl) (fun _ _ _ h => h) (.inl ⟨by kernel_rfl, fun U => by go_simp⟩) ?_
        simp only [Act.put, List.setIfInBounds_toArray, List.set_cons_zero, List.set_cons_succ]
        refine calmX_start (S := Below U.heap.size U) 14 [2] 13 (by kernel_rfl) (by kernel_rfl) (by kernel_rfl) (Below.refl _ _).drew ?_
        refine calmX_to (i := 0) (t := 18) (v := .slice (some ⟨g, 0, none⟩) n c) rfl rfl (by decide) (by kernel_rfl) (by kernel_rfl) (fun _ _ _ h => h) (calm_move (by kernel_rfl) (.tmp 0) (.inl rfl) rfl) ?_
        simp only [List.setIfInBounds_toArray, List.set_cons_zero, List.set_cons_succ]
        refine calmX_to (i := 1) (t := 19) (v := .int .i64 (j : Int)) rfl rfl (by decide) (by kernel_rfl) (by kernel_rfl) (fun _ _ _ h => h) (calm_move (by kernel_rfl) (.tmp 1) (.inl rfl) rfl) ?_
        simp only [List.setIfInBounds_toArray, List.set_cons_zero, List.set_cons_succ]
        refine calmX_to (i := 3) (t := 21) (v := .int .i64 (j : Int)) rfl rfl (by decide) (by kernel_rfl) (by kernel_rfl) (fun _ _ _ h => h) (calm_move (by kernel_rfl) (.tmp 1) (.inl rfl) rfl) ?_
        simp only [List.setIfInBounds_toArray, List.set_cons_zero, List.set_cons_succ]
        refine calmX_to (i := 4) (t := 22) (v := .int .i64 ((par j : Nat) : Int)) rfl rfl (by decide) (by kernel_rfl) (by kernel_rfl) (fun _ _ _ h => h) (calm_call1 (by kernel_rfl) 48 (.tmp 21) #[3] rfl (enters_of Try.func48 (by kernel_rfl) rfl) (.int .i64 (j : Int)) rfl (fun U hU => (above_any j HJ0.out HJB.out U).mono fun _ _ q => ⟨q.1, hU.trans (q.2.mono hU.size)⟩)) ?_
        simp only [List.setIfInBounds_toArray, List.set_cons_zero, List.set_cons_succ]
        refine calmX_to (i := 5) (t := 23) (v := .slice (some ⟨g, 0, none⟩) n c) rfl rfl (by decide) (by kernel_rfl) (by kernel_rfl) (fun _ _ _ h => h) (calm_move (by kernel_rfl) (.tmp 0) (.inl rfl) rfl) ?_
        simp only [List.setIfInBounds_toArray, List.set_cons_zero, List.set_cons_succ]
        refine calmX_to (i := 6) (t := 24) (v := .int .i64 (j : Int)) rfl rfl (by decide) (by kernel_rfl) (by kernel_rfl) (fun _ _ _ h => h) (calm_move (by kernel_rfl) (.tmp 1) (.inl rfl) rfl) ?_
        simp only [List.setIfInBounds_toArray, List.set_cons_zero, List.set_cons_succ]
        refine calmX_to (i := 7) (t := 25) (v := .int .i64 ((par j : Nat) : Int)) rfl rfl (by decide) (by kernel_rfl) (by kernel_rfl) (fun _ _ _ h => h) (calm_call1 (by kernel_rfl) 48 (.tmp 24) #[3] rfl (enters_of Try.func48 (by kernel_rfl) rfl) (.int .i64 (j : Int)) rfl (fun U hU => (above_any j HJ0.out HJB.out U).mono fun _ _ q => ⟨q.1, hU.trans (q.2.mono hU.size)⟩)) ?_
        simp only [List.setIfInBounds_toArray, List.set_cons_zero, List.set_cons_succ]
        refine calmX_to (i := 8) (t := 26) (v := .pointer (some ⟨g, par j * 2, none⟩)) rfl rfl (by decide) (by kernel_rfl) (by kernel_rfl) (fun _ _ _ h => h) (calm_of (by kernel_rfl) (fun U hU => by go_simp)) ?_
        simp only [List.setIfInBounds_toArray, List.set_cons_zero, List.set_cons_succ]
        refine calmX_to (i := 9) (t := 27) (v := .agg #[.int .i64 y1, .int .i64 y2]) rfl rfl (by decide) (by kernel_rfl) (by kernel_rfl) (fun _ _ _ h => h) (calm_of (by kernel_rfl) (fun U hU => by obtain ⟨q0, q1⟩ := (HO1.out.below hU).here HP.out HY.out; go_simp)) ?_
        simp only [List.setIfInBounds_toArray, List.set_cons_zero, List.set_cons_succ]
        refine calmX_to (i := 10) (t := 28) (v := .slice (some ⟨g, 0, none⟩) n c) rfl rfl (by decide) (by kernel_rfl) (by kernel_rfl) (fun _ _ _ h => h) (calm_move (by kernel_rfl) (.tmp 0) (.inl rfl) rfl) ?_
        simp only [List.setIfInBounds_toArray, List.set_cons_zero, List.set_cons_succ]
        refine calmX_to (i := 11) (t := 29) (v := .int .i64 (j : Int)) rfl rfl (by decide) (by kernel_rfl) (by kernel_rfl) (fun _ _ _ h => h) (calm_move (by kernel_rfl) (.tmp 1) (.inl rfl) rfl) ?_
        simp only [List.setIfInBounds_toArray, List.set_cons_zero, List.set_cons_succ]
        refine calmX_to (i := 12) (t := 30) (v := .pointer (some ⟨g, j * 2, none⟩)) rfl rfl (by decide) (by kernel_rfl) (by kernel_rfl) (fun _ _ _ h => h) (calm_of (by kernel_rfl) (fun U hU => by go_simp)) ?_
        simp only [List.setIfInBounds_toArray, List.set_cons_zero, List.set_cons_succ]
        refine calmX_to (i := 13) (t := 31) (v := .agg #[.int .i64 x1, .int .i64 x2]) rfl rfl (by decide) (by kernel_rfl) (by kernel_rfl) (fun _ _ _ h => h) (calm_of (by kernel_rfl) (fun U hU => by obtain ⟨q0, q1⟩ := (HO1.out.below hU).here HJ.out HX.out; go_simp)) ?_
        simp only [List.setIfInBounds_toArray, List.set_cons_zero, List.set_cons_succ]
        refine calmX_done _ rfl rfl (by kernel_rfl) (fun U hU => ?_)
        rename World => U2
        have HO2 := Lib.hid (HO1.out.below hU)
        have HG2 := Lib.hid (gb_trans HG1.out (Below.gb hU))
        clear hU HO1 HG1 HU
        obtain ⟨c0, c1, f0, f1⟩ := HO2.out.at2 HJ.out
        have fx : FitI (x1, x2) := by rw [← HX.out]; exact HO2.out.fit HJ.out
        have fy : FitI (y1, y2) := by rw [← HY.out]; exact HO2.out.fit HP.out
        have o3 : RowT (put2 U2 g j (y1, y2)) base g c (m.set j (y1, y2)) := HO2.out.put j fy
        have o4 : RowT (put2 (put2 U2 g j (y1, y2)) g (par j) (x1, x2)) base g c ((m.set j (y1, y2)).set (par j) (x1, x2)) := o3.put (par j) fx
        obtain ⟨d0, d1, e0, e1⟩ := o3.at2 (i := par j) (by rw [List.length_set]; exact HP.out)
        have HG4 := Lib.hid (gb_trans HG2.out (gb_trans (put2_grown U2 g j (y1, y2)) (put2_grown (put2 U2 g j (y1, y2)) g (par j) (x1, x2))))
        rw [show (m.set j (y1, y2)).set (par j) (x1, x2) = swapL m j (par j) by unfold swapL; rw [HX.out, HY.out]] at o4
        have HO4 := Lib.hid o4
        unfold put2 at HO4 HG4 d0 d1 e0 e1
        simp only at HO4 HG4 d0 d1 e0 e1
        clear o3 o4 fx fy HO2 HG2
        go_wp2_with fail
        refine (above_any j HJ0.out HJB.out _).mono ?_
        rintro e w5 ⟨rfl, b5⟩
        have HO5 := Lib.hid (HO4.out.below b5)
        have HG5 := Lib.hid (gb_trans HG4.out (Below.gb b5))
        clear b5 HO4 HG4 c0 c1 f0 f1 d0 d1 e0 e1
        go_wp2_with fail
        go_roundw
        case rel => exact ⟨par j, swapL m j (par j), rfl, Lib.hid (by rw [swap_len]; exact HP.out), Lib.hid (by rw [swap_len]; exact HLM.out), Lib.hid (fun r h => HR.out r (.step HJ0.out (by rw [HX.out, HY.out]; exact HLT.out) h)), HO5, HG5⟩
        case measure => simp only [intOf]; omega
      · have HL := Lib.hid (decide_eq_false hl)
        have HLT := Lib.hid hl
        clear hl
        go_wp2_with fail
        refine calm_region (S := fun U => Below wr.heap.size wr U) (by kernel_rfl) (Below.refl _ _).drew ?_
        refine calm_to (i := 0) (t := 4) (v := .int .i64 (j : Int)) rfl rfl (by kernel_rfl) (by kernel_rfl) (by kernel_rfl) (fun _ _ _ h => h) (calm_move (by kernel_rfl) (.tmp 1) (.inl rfl) rfl) ?_
        simp only [List.setIfInBounds_toArray, List.set_cons_zero, List.set_cons_succ]
        refine calm_to (i := 1) (t := 5) (v := .bool true) rfl rfl (by kernel_rfl) (by kernel_rfl) (by kernel_rfl) (fun _ _ _ h => h) (calm_of (by kernel_rfl) (fun U hU => by go_simp)) ?_
        simp only [List.setIfInBounds_toArray, List.set_cons_zero, List.set_cons_succ]
        refine calm_to (i := 2) (t := 6) (v := .bool true) rfl rfl (by kernel_rfl) (by kernel_rfl) (by kernel_rfl) (fun _ _ _ h => h) (calm_move (by kernel_rfl) (.tmp 5) (.inl rfl) rfl) ?_
        simp only [List.setIfInBounds_toArray, List.set_cons_zero, List.set_cons_succ]
        refine calm_to (i := 3) (t := 7) (v := .slice (some ⟨g, 0, none⟩) n c) rfl rfl (by kernel_rfl) (by kernel_rfl) (by kernel_rfl) (fun _ _ _ h => h) (calm_move (by kernel_rfl) (.tmp 0) (.inl rfl) rfl) ?_
        simp only [List.setIfInBounds_toArray, List.set_cons_zero, List.set_cons_succ]
        refine calm_to (i := 4) (t := 8) (v := .int .i64 (j : Int)) rfl rfl (by kernel_rfl) (by kernel_rfl) (by kernel_rfl) (fun _ _ _ h => h) (calm_move (by kernel_rfl) (.tmp 1) (.inl rfl) rfl) ?_
        simp only [List.setIfInBounds_toArray, List.set_cons_zero, List.set_cons_succ]
        refine calm_to (i := 5) (t := 9) (v := .pointer (some ⟨g, j * 2, none⟩)) rfl rfl (by kernel_rfl) (by kernel_rfl) (by kernel_rfl) (fun _ _ _ h => h) (calm_of (by kernel_rfl) (fun U hU => by go_simp)) ?_
        simp only [List.setIfInBounds_toArray, List.set_cons_zero, List.set_cons_succ]
        refine calm_to (i := 6) (t := 10) (v := .agg #[.int .i64 x1, .int .i64 x2]) rfl rfl (by kernel_rfl) (by kernel_rfl) (by kernel_rfl) (fun _ _ _ h => h) (calm_of (by kernel_rfl) (fun U hU => by obtain ⟨q0, q1⟩ := (HO.out.below hU).here HJ.out HX.out; go_simp)) ?_
        simp only [List.setIfInBounds_toArray, List.set_cons_zero, List.set_cons_succ]
        refine calm_to (i := 7) (t := 11) (v := .slice (some ⟨g, 0, none⟩) n c) rfl rfl (by kernel_rfl) (by kernel_rfl) (by kernel_rfl) (fun _ _ _ h => h) (calm_move (by kernel_rfl) (.tmp 0) (.inl rfl) rfl) ?_
        simp only [List.setIfInBounds_toArray, List.set_cons_zero, List.set_cons_succ]
        refine calm_to (i := 8) (t := 12) (v := .int .i64 (j : Int)) rfl rfl (by kernel_rfl) (by kernel_rfl) (by kernel_rfl) (fun _ _ _ h => h) (calm_move (by kernel_rfl) (.tmp 1) (.inl rfl) rfl) ?_
        simp only [List.setIfInBounds_toArray, List.set_cons_zero, List.set_cons_succ]
        refine calm_to (i := 9) (t := 13) (v := .int .i64 ((par j : Nat) : Int)) rfl rfl (by kernel_rfl) (by kernel_rfl) (by kernel_rfl) (fun _ _ _ h => h) (calm_call1 (by kernel_rfl) 48 (.tmp 12) #[3] rfl (enters_of Try.func48 (by kernel_rfl) rfl) (.int .i64 (j : Int)) rfl (fun U hU => (above_any j HJ0.out HJB.out U).mono fun _ _ q => ⟨q.1, hU.trans (q.2.mono hU.size)⟩)) ?_
        simp only [List.setIfInBounds_toArray, List.set_cons_zero, List.set_cons_succ]
        refine calm_to (i := 10) (t := 14) (v := .pointer (some ⟨g, par j * 2, none⟩)) rfl rfl (by kernel_rfl) (by kernel_rfl) (by kernel_rfl) (fun _ _ _ h => h) (calm_of (by kernel_rfl) (fun U hU => by go_simp)) ?_
        simp only [List.setIfInBounds_toArray, List.set_cons_zero, List.set_cons_succ]
        refine calm_to (i := 11) (t := 15) (v := .agg #[.int .i64 y1, .int .i64 y2]) rfl rfl (by kernel_rfl) (by kernel_rfl) (by kernel_rfl) (fun _ _ _ h => h) (calm_of (by kernel_rfl) (fun U hU => by obtain ⟨q0, q1⟩ := (HO.out.below hU).here HP.out HY.out; go_simp)) ?_
        simp only [List.setIfInBounds_toArray, List.set_cons_zero, List.set_cons_succ]
        refine calm_to (i := 12) (t := 16) (v := .bool false) rfl rfl (by kernel_rfl) (by kernel_rfl) (by kernel_rfl) (fun _ _ _ h => h) (calm_call2 (by kernel_rfl) 47 (.tmp 10) (.tmp 15) #[24, 24] rfl (enters_of Try.func47 (by kernel_rfl) rfl) (.agg #[.int .i64 x1, .int .i64 x2]) (.agg #[.int .i64 y1, .int .i64 y2]) rfl rfl (fun U hU => (ahead_any x1 x2 y1 y2 U).mono fun _ _ q => ⟨by rw [q.1, HL.out], hU.trans (q.2.mono hU.size)⟩)) ?_
        simp only [List.setIfInBounds_toArray, List.set_cons_zero, List.set_cons_succ]
        refine calm_to (i := 13) (t := 17) (v := .bool false) rfl rfl (by kernel_rfl) (by kernel_rfl) (by kernel_rfl) (fun _ _ _ h => h) (calm_pick (by kernel_rfl) (.tmp 6) (.tmp 16) (.const (.bool false)) rfl true rfl rfl) ?_
        simp only [List.setIfInBounds_toArray, List.set_cons_zero, List.set_cons_succ]
        refine calm_done (by kernel_rfl) (fun U hU => ?_) _
        have HO1 := Lib.hid (HO.out.below hU)
        have HG1 := Lib.hid (gb_trans HG.out (Below.gb hU))
        clear hU HO HG
        go_wp2_with fail
        go_end0
        exact ⟨rfl, m, HR.out _ (.stop (fun q => HLT.out (by rw [HX.out, HY.out] at q; exact q.2))), by rw [HLM.out, HL0.out], HO1.out, HG1.out⟩
    · have t0 : decide (0 < (j : Int)) = false := decide_eq_false (by omega)
      have HZ := Lib.hid h0
      clear h0
      go_wp2_with fail
      refine calm_region (S := fun U => Below wr.heap.size wr U) (by kernel_rfl) (Below.refl _ _).drew ?_
      refine calm_to (i := 0) (t := 4) (v := .int .i64 (j : Int)) rfl rfl (by kernel_rfl) (by kernel_rfl) (by kernel_rfl) (fun _ _ _ h => h) (calm_move (by kernel_rfl) (.tmp 1) (.inl rfl) rfl) ?_
      simp only [List.setIfInBounds_toArray, List.set_cons_zero, List.set_cons_succ]
      refine calm_to (i := 1) (t := 5) (v := .bool false) rfl rfl (by kernel_rfl) (by kernel_rfl) (by kernel_rfl) (fun _ _ _ h => h) (calm_of (by kernel_rfl) (fun U hU => by go_simp; have := HZ.out; omega)) ?_
      simp only [List.setIfInBounds_toArray, List.set_cons_zero, List.set_cons_succ]
      refine calm_to (i := 2) (t := 6) (v := .bool false) rfl rfl (by kernel_rfl) (by kernel_rfl) (by kernel_rfl) (fun _ _ _ h => h) (calm_move (by kernel_rfl) (.tmp 5) (.inl rfl) rfl) ?_
      simp only [List.setIfInBounds_toArray, List.set_cons_zero, List.set_cons_succ]
      refine calm_to (i := 3) (t := 7) (v := undef) rfl rfl (by kernel_rfl) (by kernel_rfl) (by kernel_rfl) (fun _ _ _ h => h) (calm_skip (by kernel_rfl)) ?_
      simp only [List.setIfInBounds_toArray, List.set_cons_zero, List.set_cons_succ]
      refine calm_to (i := 4) (t := 8) (v := undef) rfl rfl (by kernel_rfl) (by kernel_rfl) (by kernel_rfl) (fun _ _ _ h => h) (calm_skip (by kernel_rfl)) ?_
      simp only [List.setIfInBounds_toArray, List.set_cons_zero, List.set_cons_succ]
      refine calm_to (i := 5) (t := 9) (v := undef) rfl rfl (by kernel_rfl) (by kernel_rfl) (by kernel_rfl) (fun _ _ _ h => h) (calm_skip (by kernel_rfl)) ?_
      simp only [List.setIfInBounds_toArray, List.set_cons_zero, List.set_cons_succ]
      refine calm_to (i := 6) (t := 10) (v := undef) rfl rfl (by kernel_rfl) (by kernel_rfl) (by kernel_rfl) (fun _ _ _ h => h) (calm_skip (by kernel_rfl)) ?_
      simp only [List.setIfInBounds_toArray, List.set_cons_zero, List.set_cons_succ]
      refine calm_to (i := 7) (t := 11) (v := undef) rfl rfl (by kernel_rfl) (by kernel_rfl) (by kernel_rfl) (fun _ _ _ h => h) (calm_skip (by kernel_rfl)) ?_
      simp only [List.setIfInBounds_toArray, List.set_cons_zero, List.set_cons_succ]
      refine calm_to (i := 8) (t := 12) (v := undef) rfl rfl (by kernel_rfl) (by kernel_rfl) (by kernel_rfl) (fun _ _ _ h => h) (calm_skip (by kernel_rfl)) ?_
      simp only [List.setIfInBounds_toArray, List.set_cons_zero, List.set_cons_succ]
      refine calm_to (i := 9) (t := 13) (v := undef) rfl rfl (by kernel_rfl) (by kernel_rfl) (by kernel_rfl) (fun _ _ _ h => h) (calm_skip (by kernel_rfl)) ?_
      simp only [List.setIfInBounds_toArray, List.set_cons_zero, List.set_cons_succ]
      refine calm_to (i := 10) (t := 14) (v := undef) rfl rfl (by kernel_rfl) (by kernel_rfl) (by kernel_rfl) (fun _ _ _ h => h) (calm_skip (by kernel_rfl)) ?_
      simp only [List.setIfInBounds_toArray, List.set_cons_zero, List.set_cons_succ]
      refine calm_to (i := 11) (t := 15) (v := undef) rfl rfl (by kernel_rfl) (by kernel_rfl) (by kernel_rfl) (fun _ _ _ h => h) (calm_skip (by kernel_rfl)) ?_
      simp only [List.setIfInBounds_toArray, List.set_cons_zero, List.set_cons_succ]
      refine calm_to (i := 12) (t := 16) (v := undef) rfl rfl (by kernel_rfl) (by kernel_rfl) (by kernel_rfl) (fun _ _ _ h => h) (calm_skip (by kernel_rfl)) ?_
      simp only [List.setIfInBounds_toArray, List.set_cons_zero, List.set_cons_succ]
      refine calm_to (i := 13) (t := 17) (v := .bool false) rfl rfl (by kernel_rfl) (by kernel_rfl) (by kernel_rfl) (fun _ _ _ h => h) (calm_pick (by kernel_rfl) (.tmp 6) (.tmp 16) (.const (.bool false)) rfl false rfl rfl) ?_
      simp only [List.setIfInBounds_toArray, List.set_cons_zero, List.set_cons_succ]
      refine calm_done (by kernel_rfl) (fun U hU => ?_) _
      have HO1 := Lib.hid (HO.out.below hU)
      have HG1 := Lib.hid (gb_trans HG.out (Below.gb hU))
      clear hU HO HG
      go_wp2_with fail
      go_end0
      exact ⟨rfl, m, HR.out _ (.stop (fun q => HZ.out q.1)), by rw [HLM.out, HL0.out], HO1.out, HG1.out⟩

end Go.Proofs.Ytjamoafihmcmeaa

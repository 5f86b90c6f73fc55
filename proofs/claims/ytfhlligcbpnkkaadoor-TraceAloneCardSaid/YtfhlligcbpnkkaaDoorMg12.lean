import Derived.Test.YtfhlligcbpnkkaaDoorMg11
import Derived.Test.YtfhlligcbpnkkaaDoorMg6
import Derived.Maps.OwnSet
import Derived.Maps.Views
import Derived.Test.YtfhlligcbpnkkaaDoorMg10
import Derived.Test.YtfhlligcbpnkkaaDoorMg9
import Derived.Deep.LoopGhost
import Derived.Deep.CutBlock
import Derived.Deep.QuietTactic
import Derived.BigQuiet

/-
  Layer 18, the program: the map of tasks, read as a function from ids to blocks: made, kept, looked up, updated; a task's block (a task, and the last of its events) among others.
-/
namespace Go.Proofs.YtfhlligcbpnkkaaDoor
open Go.RowKit Go.Maps

/-- How a pointer to a task reads: as its block's number. -/
def ptrElem : Value → Option (DataW Unit × List MemPlace)
  | .pointer none => some (.lit (.int .i64 (-1)), [])
  | .pointer (some ⟨b, 0, none⟩) => some (.lit (.int .i64 b), [])
  | _ => none
def encP : Option Nat → Int
  | none => -1
  | some b => b
def ptrV : Option Nat → Value
  | none => .pointer none
  | some b => .pointer (some ⟨b, 0, none⟩)
theorem ptrElem_mk (o : Option Nat) : ptrElem (ptrV o) = some (.lit (.int .i64 (encP o)), []) := by cases o <;> rfl
theorem ptrElem_inv {v : Value} {o : Option Nat} {ps : List MemPlace} (h : ptrElem v = some (.lit (.int .i64 (encP o)), ps)) : v = ptrV o := by
  unfold ptrElem at h
  split at h
  · cases o with
    | none => rfl
    | some b => simp [encP] at h
  · next c => cases o with
    | none => simp [encP] at h
    | some b =>
      have h := h
      simp [encP] at h
      obtain rfl : c = b := by omega
      rfl
  · cases h
/-- A function, at one place another one. -/
def updP (f : Int → Option Nat) (x : Int) (g : Nat) (y : Int) : Option Nat := if y = x then some g else f y

theorem Tryd.zeroPtr (w : World) : (zeroValue 59).run Tryd.prog w = .ok (.pointer none) w := by kernel_rfl
theorem Tryd.keyedT : Keyed Tryd.prog 2 := int_keyed Tryd.underlying2
theorem keyT {x : Int} (h : Fit x) : keyOf Tryd.prog 2 (.int .i64 x) = some (.int .i64 x) := keyOf_int_mk Tryd.underlying2 (wf_of_fit h)

/-- In block b lies a map that reads as f (n entries at the most). -/
def PMap (w : World) (b n : Nat) (f : Int → Option Nat) : Prop :=
  ∃ D : DataW Unit, w.ownsMap Tryd.prog 2 ptrElem b n D ∧ (∀ x, D.atKey (.int .i64 x) (.lit (.int .i64 (-1))) = .lit (.int .i64 (encP (f x)))) ∧ ∀ x, Maps.has D (.int .i64 x) = (f x).isSome

section
variable {w w' : World} {b n : Nat} {f : Int → Option Nat}
theorem PMap.made (w : World) : PMap (w.alloc (.map #[] 0)) w.heap.size 0 fun _ => none :=
  ⟨.map [], World.ownsMap_made w _ _ _, fun _ => rfl, fun _ => rfl⟩
theorem PMap.grown (h : PMap w b n f) {row : Option Nat} (hg : w.grownBy w' row) (hne : some b ≠ row) : PMap w' b n f := by
  obtain ⟨D, hD, hf⟩ := h
  exact ⟨D, hD.kept hg hne, hf⟩
theorem PMap.below (h : PMap w b n f) (hb : Below w.heap.size w w') : PMap w' b n f :=
  h.grown (row := none) ⟨hb.os, hb.tape, hb.output, hb.size, fun k hk _ => hb.block k hk⟩ (by simp)
theorem PMap.lt (h : PMap w b n f) : b < w.heap.size := by obtain ⟨D, hD, _⟩ := h; exact hD.lt
theorem PMap.mono (h : PMap w b n f) {m : Nat} (hm : n ≤ m) : PMap w b m f := by
  obtain ⟨D, hD, hf⟩ := h
  exact ⟨D, hD.mono hm, hf⟩
theorem PMap.look (h : PMap w b n f) {x : Int} (hx : Fit x) : (Instr.lookup 52 (.map (some b)) (.int .i64 x) true).run Tryd.prog w = .ok (.tuple #[ptrV (f x), .bool (f x).isSome]) w := by
  obtain ⟨D, hD, hf, hh⟩ := h
  obtain ⟨v, ps, hrun, hv⟩ := hD.look_ok Tryd.keyedT Tryd.underlying52 (Tryd.zeroPtr w) (ptrElem_mk none) (keyT hx)
  rw [show encP none = -1 from rfl, hf x] at hv
  rw [hrun, hh x, ptrElem_inv hv]
theorem PMap.get (h : PMap w b n f) {x : Int} (hx : Fit x) : (Instr.lookup 52 (.map (some b)) (.int .i64 x) false).run Tryd.prog w = .ok (ptrV (f x)) w := by
  obtain ⟨D, hD, hf, hh⟩ := h
  obtain ⟨v, ps, hrun, hv⟩ := hD.lookup Tryd.keyedT Tryd.underlying52 (Tryd.zeroPtr w) (ptrElem_mk none) (keyT hx)
  rw [show encP none = -1 from rfl, hf x] at hv
  rw [hrun, ptrElem_inv hv]
theorem PMap.put (h : PMap w b n f) {x : Int} (hx : Fit x) (g : Nat) (hn : n < 100000) : ∃ w', (Instr.mapUpdate 52 (.map (some b)) (.int .i64 x) (.pointer (some ⟨g, 0, none⟩))).run Tryd.prog w = .ok () w' ∧ PMap w' b (n + 1) (updP f x g) ∧ w.grownBy w' (some b) := by
  obtain ⟨D, hD, hf, hh⟩ := h
  obtain ⟨w', hrun, h1, h2⟩ := hD.update Tryd.keyedT Tryd.underlying52 (by unfold maxLen; omega) (keyT hx) (ptrElem_mk (some g))
  refine ⟨w', hrun, ⟨_, h1, fun y => ?_, fun y => ?_⟩, h2⟩
  · by_cases e : y = x
    · subst e
      rw [atKey_put_same hD.isMap (by trivial)]; simp [updP]
    · rw [atKey_put_other (by intro e'; injection e' with _ e'; exact e e'), hf y]; simp [updP, e]
  · by_cases e : y = x
    · subst e
      rw [has_put_same hD.isMap (by trivial)]; simp [updP]
    · rw [has_put_other (by intro e'; injection e' with _ e'; exact e e'), hh y]; simp [updP, e]
end

/-! ### a task's block -/
/-- A task, and the last of its events. -/
def tkc (t : Tk) (l : I3) : Array Value := #[.int .i64 t.id, .int .i64 t.tn, .int .i64 t.pg, .int .i64 t.pc, .int .i64 t.un, .int .i64 t.k0, .int .i64 t.k1, .int .i64 t.k2, .int .i64 t.k3, .int .i64 t.st, .int .i64 t.rn, .int .i64 l.1, .int .i64 l.2.1, .int .i64 l.2.2]
section
variable {w w' W : World} {g b B : Nat} {t : TypeId} {x0 x1 x2 x3 x4 x5 x6 x7 x8 x9 x10 x11 x12 x13 : Value}
theorem gr_below {r : Nat} (h : w.grownBy w' (some r)) (hb : B ≤ r) (hs : B ≤ w.heap.size) : Below B w w' := ⟨h.os, h.tape, h.output, h.size, fun k hk => h.block k (by omega) (by intro e; injection e with e; omega)⟩
theorem gr_of (h : Below w.heap.size w w') (r : Option Nat) : w.grownBy w' r := ⟨h.os, h.tape, h.output, h.size, fun k hk _ => h.block k hk⟩
theorem gr_trans {w1 w2 : World} {r : Option Nat} (h : w.grownBy w1 r) (k : w1.grownBy w2 r) : w.grownBy w2 r := ⟨k.os.trans h.os, k.tape.trans h.tape, k.output.trans h.output, Nat.le_trans h.size k.size, fun j hj hr => (k.block j (Nat.lt_of_lt_of_le hj h.size) hr).trans (h.block j hj hr)⟩
theorem Bk.c14t (h : Bk w g t #[x0, x1, x2, x3, x4, x5, x6, x7, x8, x9, x10, x11, x12, x13]) :
    w.cell? ⟨g, 0, none⟩ = some x0 ∧ w.cell? ⟨g, 1, none⟩ = some x1 ∧ w.cell? ⟨g, 2, none⟩ = some x2 ∧ w.cell? ⟨g, 3, none⟩ = some x3 ∧ w.cell? ⟨g, 4, none⟩ = some x4 ∧ w.cell? ⟨g, 5, none⟩ = some x5 ∧ w.cell? ⟨g, 6, none⟩ = some x6 ∧ w.cell? ⟨g, 7, none⟩ = some x7 ∧ w.cell? ⟨g, 8, none⟩ = some x8 ∧ w.cell? ⟨g, 9, none⟩ = some x9 ∧ w.cell? ⟨g, 10, none⟩ = some x10 ∧ w.cell? ⟨g, 11, none⟩ = some x11 ∧ w.cell? ⟨g, 12, none⟩ = some x12 ∧ w.cell? ⟨g, 13, none⟩ = some x13 :=
  ⟨h.cell 0, h.cell 1, h.cell 2, h.cell 3, h.cell 4, h.cell 5, h.cell 6, h.cell 7, h.cell 8, h.cell 9, h.cell 10, h.cell 11, h.cell 12, h.cell 13⟩
theorem Bk.f14t {cs : Array Value} (h : Bk w g t cs) :
    w.frozen? ⟨g, 0, none⟩ = false ∧ w.frozen? ⟨g, 1, none⟩ = false ∧ w.frozen? ⟨g, 2, none⟩ = false ∧ w.frozen? ⟨g, 3, none⟩ = false ∧ w.frozen? ⟨g, 4, none⟩ = false ∧ w.frozen? ⟨g, 5, none⟩ = false ∧ w.frozen? ⟨g, 6, none⟩ = false ∧ w.frozen? ⟨g, 7, none⟩ = false ∧ w.frozen? ⟨g, 8, none⟩ = false ∧ w.frozen? ⟨g, 9, none⟩ = false ∧ w.frozen? ⟨g, 10, none⟩ = false ∧ w.frozen? ⟨g, 11, none⟩ = false ∧ w.frozen? ⟨g, 12, none⟩ = false ∧ w.frozen? ⟨g, 13, none⟩ = false :=
  ⟨h.frozen 0, h.frozen 1, h.frozen 2, h.frozen 3, h.frozen 4, h.frozen 5, h.frozen 6, h.frozen 7, h.frozen 8, h.frozen 9, h.frozen 10, h.frozen 11, h.frozen 12, h.frozen 13⟩
theorem bk_set14 (h : Bk W g t #[x0, x1, x2, x3, x4, x5, x6, x7, x8, x9, x10, x11, x12, x13]) (v0 v1 v2 v3 v4 v5 v6 v7 v8 v9 v10 : Value) : Bk (set11 W g v0 v1 v2 v3 v4 v5 v6 v7 v8 v9 v10) g t #[v0, v1, v2, v3, v4, v5, v6, v7, v8, v9, v10, x11, x12, x13] := by
  have a0 : Bk (_) g t #[v0, x1, x2, x3, x4, x5, x6, x7, x8, x9, x10, x11, x12, x13] := h.set_ 0 v0
  have a1 : Bk (_) g t #[v0, v1, x2, x3, x4, x5, x6, x7, x8, x9, x10, x11, x12, x13] := a0.set_ 1 v1
  have a2 : Bk (_) g t #[v0, v1, v2, x3, x4, x5, x6, x7, x8, x9, x10, x11, x12, x13] := a1.set_ 2 v2
  have a3 : Bk (_) g t #[v0, v1, v2, v3, x4, x5, x6, x7, x8, x9, x10, x11, x12, x13] := a2.set_ 3 v3
  have a4 : Bk (_) g t #[v0, v1, v2, v3, v4, x5, x6, x7, x8, x9, x10, x11, x12, x13] := a3.set_ 4 v4
  have a5 : Bk (_) g t #[v0, v1, v2, v3, v4, v5, x6, x7, x8, x9, x10, x11, x12, x13] := a4.set_ 5 v5
  have a6 : Bk (_) g t #[v0, v1, v2, v3, v4, v5, v6, x7, x8, x9, x10, x11, x12, x13] := a5.set_ 6 v6
  have a7 : Bk (_) g t #[v0, v1, v2, v3, v4, v5, v6, v7, x8, x9, x10, x11, x12, x13] := a6.set_ 7 v7
  have a8 : Bk (_) g t #[v0, v1, v2, v3, v4, v5, v6, v7, v8, x9, x10, x11, x12, x13] := a7.set_ 8 v8
  have a9 : Bk (_) g t #[v0, v1, v2, v3, v4, v5, v6, v7, v8, v9, x10, x11, x12, x13] := a8.set_ 9 v9
  have a10 : Bk (_) g t #[v0, v1, v2, v3, v4, v5, v6, v7, v8, v9, v10, x11, x12, x13] := a9.set_ 10 v10
  exact a10
theorem gr_set14 (h : w.grownBy W (some g)) (v0 v1 v2 v3 v4 v5 v6 v7 v8 v9 v10 : Value) : w.grownBy (set11 W g v0 v1 v2 v3 v4 v5 v6 v7 v8 v9 v10) (some g) :=
  gr_trans (gr_trans (gr_trans (gr_trans (gr_trans (gr_trans (gr_trans (gr_trans (gr_trans (gr_trans (gr_trans h (grown_set v0)) (grown_set v1)) (grown_set v2)) (grown_set v3)) (grown_set v4)) (grown_set v5)) (grown_set v6)) (grown_set v7)) (grown_set v8)) (grown_set v9)) (grown_set v10)
/-- The last event is stored. -/
def setL (W : World) (g : Nat) (v0 v1 v2 : Value) : World := ((W.setCell ⟨g, 11, none⟩ v0).setCell ⟨g, 12, none⟩ v1).setCell ⟨g, 13, none⟩ v2
theorem bk_setL (h : Bk W g t #[x0, x1, x2, x3, x4, x5, x6, x7, x8, x9, x10, x11, x12, x13]) (v0 v1 v2 : Value) : Bk (setL W g v0 v1 v2) g t #[x0, x1, x2, x3, x4, x5, x6, x7, x8, x9, x10, v0, v1, v2] := by
  have a0 : Bk (_) g t #[x0, x1, x2, x3, x4, x5, x6, x7, x8, x9, x10, v0, x12, x13] := h.set_ 11 v0
  have a1 : Bk (_) g t #[x0, x1, x2, x3, x4, x5, x6, x7, x8, x9, x10, v0, v1, x13] := a0.set_ 12 v1
  have a2 : Bk (_) g t #[x0, x1, x2, x3, x4, x5, x6, x7, x8, x9, x10, v0, v1, v2] := a1.set_ 13 v2
  exact a2
theorem gr_setL (h : w.grownBy W (some g)) (v0 v1 v2 : Value) : w.grownBy (setL W g v0 v1 v2) (some g) := gr_trans (gr_trans (gr_trans h (grown_set v0)) (grown_set v1)) (grown_set v2)
theorem far_setL {k : Nat} {cs : Array Value} {u : TypeId} (h : Bk W k u cs) (hne : k ≠ g) (v0 v1 v2 : Value) : Bk (setL W g v0 v1 v2) k u cs :=
  ((h.far (p := ⟨g, 11, none⟩) hne v0).far (p := ⟨g, 12, none⟩) hne v1).far (p := ⟨g, 13, none⟩) hne v2
end

end Go.Proofs.YtfhlligcbpnkkaaDoor

/-
  Layer 13: small words about units and what is left, for the laws.
-/
namespace Go.Proofs.YtfhlligcbpnkkaaDoor
open Go.RowKit

theorem do_ok {t : Tk} {p : List I3} (h : (doR t p).2.2 = 0) : okF t p ∧ (unitR t p).2.2 = 0 ∧ doR t p = unitR t p := by
  by_cases q : okF t p
  · rw [doR_yes q] at h; exact ⟨q, h, doR_yes q⟩
  · rw [doR_no q] at h; exact absurd h (by decide)
theorem unit_ids {t : Tk} {p : List I3} (h : (unitR t p).2.2 = 0) : (unitR t p).1.id = t.id ∧ (unitR t p).1.tn = t.tn := by
  rw [(unit_ok h).2.2]
  unfold goT goW
  dsimp only
  split
  · split <;> exact ⟨rfl, rfl⟩
  · exact ⟨rfl, rfl⟩
theorem unit_go {t : Tk} {p : List I3} (h : t.st = 2) (k : t.rn ≠ 1099511627776) : (unitR t p).2.2 = 0 := by
  unfold unitR; rw [if_neg (fun q => q h), if_neg k]
theorem left_end {t : Tk} {p : List I3} (h : okF t p) (q : ¬ t.pc < p.length) : leftV t p = 0 := by
  obtain ⟨k, hk, h1, -⟩ := h.num
  have := leftR_end h hk (by omega)
  rw [leftR_ok h] at this
  exact (Prod.mk.inj this).1
theorem leftV_le {t : Tk} {p : List I3} (h : okF t p) : leftV t p ≤ 3200 := by
  obtain ⟨k, hk, h1, h2, h3, -⟩ := h.num
  by_cases ho : outB p k = true
  · rw [leftV_out hk ho]; omega
  · rw [leftV_in hk (by cases hh : outB p k <;> simp_all)]
    by_cases hl : k < p.length
    · have := (units_room (okP_drop h.2.1 hl) (Nat.le_refl _)).2
      unfold units
      omega
    · rw [List.drop_eq_nil_iff.2 (by omega)]
      have : units [] = 0 := rfl
      omega
theorem unit_pc {t : Tk} {p : List I3} (_ : okF t p) (e : (unitR t p).2.2 = 0) : t.pc ≤ (unitR t p).1.pc ∧ (unitR t p).1.pc ≤ t.pc + 1 ∧ (unitR t p).1.st = t.st := by
  rw [(unit_ok e).2.2]
  unfold goT goW
  dsimp only
  split
  · split
    · exact ⟨by dsimp only; omega, by dsimp only; omega, rfl⟩
    · exact ⟨by dsimp only; omega, by dsimp only; omega, rfl⟩
  · split
    · exact ⟨by dsimp only; omega, by dsimp only; omega, rfl⟩
    · exact ⟨by dsimp only; omega, by dsimp only; omega, rfl⟩


end Go.Proofs.YtfhlligcbpnkkaaDoor

/-
  Layer 18, the program: mathematics of its moves: what a task may do, as the program tests it.
-/
namespace Go.Proofs.YtfhlligcbpnkkaaDoor
open Go.RowKit

theorem okT_st {t : Tk} {s : Int} (h : okT t) (hs : stB s = true) : okT { t with st := s } := ⟨⟨h.1.1, h.1.2.1, h.1.2.2.1, h.1.2.2.2.1, h.1.2.2.2.2.1, h.1.2.2.2.2.2.1, hs⟩, h.2⟩
theorem okT.st {t : Tk} (h : okT t) : stB t.st = true := h.1.2.2.2.2.2.2
theorem stB_wt {s : Int} (h : wtB s = true) : stB s = true := by
  unfold wtB at h; unfold stB; simp at h ⊢; omega
theorem leg_hold {s : Int} (h : wtB s = true) : legB 2 s = true := by
  rw [legB_plain, if_pos ⟨by decide, stB_wt h⟩]
  have : 3 ≤ s ∧ s ≤ 6 := by unfold wtB at h; simpa using h
  rw [if_neg (by omega), if_neg (by omega), if_neg (by omega)]
  decide
theorem leg_free {s : Int} (h : wtB s = true) : legB s 1 = true := by
  rw [legB_plain, if_pos ⟨stB_wt h, by decide⟩, if_neg (by decide), if_neg (by decide), if_pos rfl, h]
  simp
theorem leg_over {s : Int} (h : stB s = true) : legB s 7 = decide (s ≠ 7) := by
  rw [legB_plain, if_pos ⟨h, by decide⟩, if_pos rfl]
theorem leg_run {s : Int} (h : stB s = true) : legB s 2 = decide (s = 1) := by
  rw [legB_plain, if_pos ⟨h, by decide⟩, if_neg (by decide), if_pos rfl]
theorem mv_run {t : Tk} (h : okT t) (e : t.st = 1) : moveR t 2 = (0, { t with st := 2 }) := moveR_4 h (by decide) (by rw [e]; decide)
theorem mv_run_no {t : Tk} (e : t.st ≠ 1) : (moveR t 2).1 ≠ 0 := by
  by_cases h : okT t
  · rw [moveR_3 h (by decide) (by rw [leg_run h.st]; simpa using e)]; show (9 : Int) ≠ 0; decide
  · rw [moveR_1 h]; show (1 : Int) ≠ 0; decide
theorem mv_hold {t : Tk} {s : Int} (h : okT t) (e : t.st = 2) (hs : wtB s = true) : moveR t s = (0, { t with st := s }) := moveR_4 h (stB_wt hs) (by rw [e]; exact leg_hold hs)
theorem mv_ready {t : Tk} (h : okT t) (e : t.st = 2) : moveR t 1 = (0, { t with st := 1 }) := moveR_4 h (by decide) (by rw [e]; decide)
theorem mv_free {t : Tk} (h : okT t) (e : wtB t.st = true) : moveR t 1 = (0, { t with st := 1 }) := moveR_4 h (by decide) (leg_free e)
theorem mv_over {t : Tk} (h : okT t) (e : t.st ≠ 7) : moveR t 7 = (0, { t with st := 7 }) := moveR_4 h (by decide) (by rw [leg_over h.st]; simpa using e)
theorem mv_over_no {t : Tk} (e : t.st = 7) : (moveR t 7).1 ≠ 0 := by
  by_cases h : okT t
  · rw [moveR_3 h (by decide) (by rw [e]; decide)]; show (9 : Int) ≠ 0; decide
  · rw [moveR_1 h]; show (1 : Int) ≠ 0; decide

/-- A unit, as DidE asks. -/
noncomputable def doA (p : List I3) (t : Tk) (last : I3) (op : Int) : Option Tk :=
  if t.st = 1 ∧ ¬ (last.1 = 2 ∧ last.2.2 = 9) ∧ op = (nextR t p).1.1 ∧ (doR { t with st := 2 } p).2.2 = 0 then some { (doR { t with st := 2 } p).1 with st := 1 } else none
/-- A wait, as HeldE asks. -/
def holdA (t : Tk) (last : I3) (s : Int) : Option Tk := if t.st = 1 ∧ last.1 = 2 ∧ s ≠ 0 ∧ s = heldR last.2.2 then some { t with st := s } else none
def freeA (t : Tk) (a : Int) : Option Tk := if wtB t.st = true ∧ a = 0 then some { t with st := 1 } else none
def overA (t : Tk) (last : I3) (a : Int) : Option Tk := if t.st = 1 ∧ last.1 = 2 ∧ last.2.2 = 9 ∧ a = 0 then some { t with st := 7 } else none
def leftA (t : Tk) (a : Int) : Option Tk := if t.st ≠ 7 ∧ a = 0 then some { t with st := 7 } else none
/-- One more event. -/
noncomputable def stepA (p : List I3) (t : Tk) (last x : I3) : Option Tk :=
  if x.1 = 2 then doA p t last x.2.2 else if x.1 = 3 then holdA t last x.2.2 else if x.1 = 4 then freeA t x.2.2 else if x.1 = 5 then overA t last x.2.2 else if x.1 = 6 then leftA t x.2.2 else none
theorem stepT_A (P : List (List I3)) (t : Tk) (last x : I3) : stepT P t last x = stepA (prgT P t) t last x := by
  unfold stepT stepA
  by_cases h2 : x.1 = 2
  · rw [if_pos h2, if_pos h2]; rfl
  rw [if_neg h2, if_neg h2]
  by_cases h3 : x.1 = 3
  · rw [if_pos h3, if_pos h3]; rfl
  rw [if_neg h3, if_neg h3]
  by_cases h4 : x.1 = 4
  · rw [if_pos h4, if_pos h4]; rfl
  rw [if_neg h4, if_neg h4]
  by_cases h5 : x.1 = 5
  · rw [if_pos h5, if_pos h5]; rfl
  rw [if_neg h5, if_neg h5]
  by_cases h6 : x.1 = 6
  · rw [if_pos h6]
    unfold leftA
    by_cases c : t.st ≠ 7 ∧ x.2.2 = 0
    · rw [if_pos c, if_pos ⟨h6, c⟩]
    · rw [if_neg c, if_neg (fun q => c q.2)]
  · rw [if_neg h6, if_neg (fun q => h6 q.1)]

theorem okF_st {t : Tk} {p : List I3} {s : Int} (h : okF t p) (hs : stB s = true) : okF { t with st := s } p := ⟨okT_st h.1 hs, h.2.1, h.2.2.1, h.2.2.2⟩
/-- A task that may be asked for its next one, and is Ready. -/
theorem do_next {t : Tk} {p : List I3} (h : (nextR t p).2 ≠ 0) (e : t.st = 1) : (doR { t with st := 2 } p).2.2 ≠ 0 := by
  intro q
  have hF := okF_st (s := t.st) (do_ok q).1 (by rw [e]; decide)
  exact h (by rw [nextR_yes (show okF t p from hF)])
theorem doA_ok {p : List I3} {t u : Tk} {last : I3} {op : Int} (h : doA p t last op = some u) : okT u := by
  unfold doA at h
  split at h
  · next q =>
    obtain ⟨-, -, -, q⟩ := q
    injection h with h
    subst h
    obtain ⟨h1, h2, h3⟩ := do_ok q
    rw [h3]
    exact okT_st (unit_keeps h1 h2).1 (by decide)
  · cases h
theorem do_run {t : Tk} {p : List I3} (q : (doR t p).2.2 = 0) : okT (doR t p).1 ∧ (doR t p).1.st = 2 := by
  obtain ⟨h1, h2, h3⟩ := do_ok q
  rw [h3]
  exact ⟨(unit_keeps h1 h2).1, by rw [(unit_pc h1 h2).2.2]; exact (unit_ok h2).1⟩
theorem stepA_ok {p : List I3} {t u : Tk} {last x : I3} (ht : okT t) (h : stepA p t last x = some u) : okT u := by
  unfold stepA at h
  split at h
  · exact doA_ok h
  split at h
  · unfold holdA at h
    split at h
    · next q => injection h with h; subst h; exact okT_st ht (stB_wt (by rw [q.2.2.2]; exact heldR_wt (by rw [← q.2.2.2]; exact q.2.2.1)))
    · cases h
  split at h
  · unfold freeA at h
    split at h
    · injection h with h; subst h; exact okT_st ht (by decide)
    · cases h
  split at h
  · unfold overA at h
    split at h
    · injection h with h; subst h; exact okT_st ht (by decide)
    · cases h
  split at h
  · unfold leftA at h
    split at h
    · injection h with h; subst h; exact okT_st ht (by decide)
    · cases h
  · cases h

end Go.Proofs.YtfhlligcbpnkkaaDoor

/-
  Layer 18, the program: a task's own steps.
-/
namespace Go.Proofs.YtfhlligcbpnkkaaDoor
open Go.RowKit

theorem Fol.gr {w w' : World} {b : Nat} (h : Fol w) (hg : w.grownBy w' (some b)) (hb : b ≠ 0) : Fol w' :=
  h.below (gr_below (B := 1) hg (by omega) h.1) (by decide)
theorem some_ne {a b : Nat} (h : b ≠ a) : some a ≠ some b := fun e => h (Option.some.inj e).symm
theorem some_ne2 {a b : Nat} (h : b ≠ a) : a ≠ b := fun e => h e.symm
/-- A task's block behind a call. -/
def TakP (b : Nat) (v : Bool) (U : Tk) (L : I3) (w : World) (e : Ending) (w' : World) : Prop := e = .returned (.bool v) ∧ Bk w' b 58 (tkc U L) ∧ w.grownBy w' (some b)
/-- .. and where the task is of use only if the answer is yes. -/
def StP (b : Nat) (r : Option Tk) (L : I3) (w : World) (e : Ending) (w' : World) : Prop := e = .returned (.bool r.isSome) ∧ (∀ U, r = some U → Bk w' b 58 (tkc U L)) ∧ w.grownBy w' (some b)
theorem TakP.yes {b : Nat} {U : Tk} {L : I3} {w w' : World} {e : Ending} {r : Option Tk} (h : TakP b true U L w e w') (hr : r = some U) : StP b r L w e w' := by
  subst hr
  exact ⟨h.1, fun V hV => (Option.some.inj hV) ▸ h.2.1, h.2.2⟩
theorem TakP.no {b : Nat} {U : Tk} {L : I3} {w w' : World} {e : Ending} {r : Option Tk} (h : TakP b false U L w e w') (hr : r = none) : StP b r L w e w' := by
  subst hr
  exact ⟨h.1, fun V hV => (by cases hV), h.2.2⟩
theorem stp_no {b : Nat} {r : Option Tk} {L : I3} {w w' : World} (hr : r = none) (gg : w.grownBy w' (some b)) : StP b r L w (.returned (.bool false)) w' := by
  subst hr
  exact ⟨rfl, fun V hV => (by cases hV), gg⟩
theorem stp_yes {b : Nat} {r : Option Tk} {U : Tk} {L : I3} {w w' : World} (hr : r = some U) (kt : Bk w' b 58 (tkc U L)) (gg : w.grownBy w' (some b)) : StP b r L w (.returned (.bool true)) w' := by
  subst hr
  exact ⟨rfl, fun V hV => (Option.some.inj hV) ▸ kt, gg⟩

theorem held_tp (x : Int) (w : World) : Calls Tryd.prog 21 #[.int .i64 x] w (RetW (.int .i64 (heldR x)) w) := by
  by_cases h4 : x = 4
  · subst h4
    go_enter Tryd.func21, Tryd.ntmps21
    go_wp2_with fail
    go_ret
    exact ⟨rfl, rfl⟩
  · by_cases h5 : x = 5
    · subst h5
      go_enter Tryd.func21, Tryd.ntmps21
      go_wp2_with fail
      go_ret
      exact ⟨rfl, rfl⟩
    · by_cases h6 : x = 6
      · subst h6
        go_enter Tryd.func21, Tryd.ntmps21
        go_wp2_with fail
        go_ret
        exact ⟨rfl, rfl⟩
      · by_cases h7 : x = 7
        · subst h7
          go_enter Tryd.func21, Tryd.ntmps21
          go_wp2_with fail
          go_ret
          exact ⟨rfl, rfl⟩
        · rw [show heldR x = 0 from if_neg (by omega)]
          have t4 : (x == 4) = false := by simpa using h4
          have t5 : (x == 5) = false := by simpa using h5
          have t6 : (x == 6) = false := by simpa using h6
          have t7 : (x == 7) = false := by simpa using h7
          clear h4 h5 h6 h7
          go_enter Tryd.func21, Tryd.ntmps21
          go_wp2_with fail
          go_ret
          exact ⟨rfl, rfl⟩

set_option maxHeartbeats 1000000 in
theorem exited_tp (b : Nat) (T : Tk) (L : I3) (w : World) (hK : Bk w b 58 (tkc T L)) :
    Calls Tryd.prog 54 #[.pointer (some ⟨b, 0, none⟩)] w (RetW (.bool (L.1 == 2 && L.2.2 == 9)) w) := by
  obtain ⟨id, tn, pg, pc, un, k0, k1, k2, k3, st, rn⟩ := T
  obtain ⟨lk, li, la⟩ := L
  have KT := Lib.hid hK
  unfold tkc at KT
  dsimp only at KT ⊢
  clear hK
  by_cases h1 : lk = 2
  · have t1 : (lk == 2) = true := by simpa using h1
    clear h1
    rw [t1, Bool.true_and]
    go_enter Tryd.func54, Tryd.ntmps54
    obtain ⟨qT_0, qT_1, qT_2, qT_3, qT_4, qT_5, qT_6, qT_7, qT_8, qT_9, qT_10, qT_11, qT_12, qT_13⟩ := KT.out.c14t
    have lT := KT.out.lt
    go_wp2_with fail
    go_ret
    exact ⟨rfl, rfl⟩
  · have t1 : (lk == 2) = false := by simpa using h1
    clear h1
    rw [t1, Bool.false_and]
    go_enter Tryd.func54, Tryd.ntmps54
    obtain ⟨qT_0, qT_1, qT_2, qT_3, qT_4, qT_5, qT_6, qT_7, qT_8, qT_9, qT_10, qT_11, qT_12, qT_13⟩ := KT.out.c14t
    have lT := KT.out.lt
    go_wp2_with fail
    go_ret
    exact ⟨rfl, rfl⟩

set_option maxHeartbeats 1000000 in
theorem move_tp_ok (b : Nat) (T : Tk) (L : I3) (nx : Int) (u0 u1 u2 u3 u4 u5 u6 u7 u8 u9 u10 : Int) (w : World) (hF : Fol w) (hb0 : b ≠ 0) (hK : Bk w b 58 (tkc T L)) (hm : moveR T nx = (0, ⟨u0, u1, u2, u3, u4, u5, u6, u7, u8, u9, u10⟩)) :
    Calls Tryd.prog 53 #[.pointer (some ⟨b, 0, none⟩), .int .i64 nx] w (TakP b true ⟨u0, u1, u2, u3, u4, u5, u6, u7, u8, u9, u10⟩ L w) := by
  obtain ⟨id, tn, pg, pc, un, k0, k1, k2, k3, st, rn⟩ := T
  obtain ⟨lk, li, la⟩ := L
  have KT := Lib.hid hK
  have HFo := Lib.hid hF
  have HB0 := Lib.hid hb0
  unfold tkc at KT
  dsimp only at KT
  clear hK hF hb0
  unfold TakP tkc
  have GG : Hid (w.grownBy w (some b)) := Lib.hid (World.grownBy.refl _ _)
  have HM : Hid (moveR ⟨id, tn, pg, pc, un, k0, k1, k2, k3, st, rn⟩ nx = (0, ⟨u0, u1, u2, u3, u4, u5, u6, u7, u8, u9, u10⟩)) := Lib.hid hm
  clear hm
  go_enter Tryd.func53, Tryd.ntmps53
  obtain ⟨qT_0, qT_1, qT_2, qT_3, qT_4, qT_5, qT_6, qT_7, qT_8, qT_9, qT_10, qT_11, qT_12, qT_13⟩ := KT.out.c14t
  have lT := KT.out.lt
  go_wp2_with fail
  refine (move_any ⟨id, tn, pg, pc, un, k0, k1, k2, k3, st, rn⟩ nx _ HFo.out).mono ?_
  rw [HM.out]
  try dsimp only
  rintro e U1 ⟨rfl, bU1⟩
  clear qT_0 qT_1 qT_2 qT_3 qT_4 qT_5 qT_6 qT_7 qT_8 qT_9 qT_10 qT_11 qT_12 qT_13 lT
  replace GG := Lib.hid (gr_trans GG.out (gr_of bU1 _))
  replace KT := Lib.hid (KT.out.below bU1 KT.out.lt)
  replace HFo := Lib.hid (HFo.out.le bU1)
  clear bU1
  dsimp only [tc]
  have kn := Bk.new U1 44 #[.int .i64 u0, .int .i64 u1, .int .i64 u2, .int .i64 u3, .int .i64 u4, .int .i64 u5, .int .i64 u6, .int .i64 u7, .int .i64 u8, .int .i64 u9, .int .i64 u10]
  have ba := (Below.refl U1.heap.size U1).alloc (Nat.le_refl _) (.cells #[.int .i64 u0, .int .i64 u1, .int .i64 u2, .int .i64 u3, .int .i64 u4, .int .i64 u5, .int .i64 u6, .int .i64 u7, .int .i64 u8, .int .i64 u9, .int .i64 u10] 44)
  have nt := Nat.ne_of_lt KT.out.lt
  replace GG := Lib.hid (gr_trans GG.out (gr_of ba _))
  replace KT := Lib.hid (KT.out.below ba KT.out.lt)
  replace HFo := Lib.hid (HFo.out.le ba)
  obtain ⟨gN, hg⟩ : ∃ g, U1.heap.size = g := ⟨_, rfl⟩
  obtain ⟨V2, hW⟩ : ∃ W, U1.alloc (.cells #[.int .i64 u0, .int .i64 u1, .int .i64 u2, .int .i64 u3, .int .i64 u4, .int .i64 u5, .int .i64 u6, .int .i64 u7, .int .i64 u8, .int .i64 u9, .int .i64 u10] 44) = W := ⟨_, rfl⟩
  have KN := Lib.hid kn
  rw [hW] at GG KT HFo KN
  rw [hg] at KN nt
  have HGN := Lib.hid hg
  have HWN := Lib.hid hW
  have NT_N := Lib.hid nt
  clear hW hg kn ba nt
  go_upto_region 2 with fail
  rw [HWN.out]
  try rw [HGN.out]
  clear HWN HGN
  obtain ⟨qN_0, qN_1, qN_2, qN_3, qN_4, qN_5, qN_6, qN_7, qN_8, qN_9, qN_10⟩ := KN.out.c11
  have lN := KN.out.lt
  go_upto_region 4 with fail
  obtain ⟨qT_0, qT_1, qT_2, qT_3, qT_4, qT_5, qT_6, qT_7, qT_8, qT_9, qT_10, qT_11, qT_12, qT_13⟩ := KT.out.c14t
  have lT := KT.out.lt
  obtain ⟨fT_0, fT_1, fT_2, fT_3, fT_4, fT_5, fT_6, fT_7, fT_8, fT_9, fT_10, fT_11, fT_12, fT_13⟩ := KT.out.f14t
  have x0 := Lib.hid (bk_set14 KT.out (.int .i64 u0) (.int .i64 u1) (.int .i64 u2) (.int .i64 u3) (.int .i64 u4) (.int .i64 u5) (.int .i64 u6) (.int .i64 u7) (.int .i64 u8) (.int .i64 u9) (.int .i64 u10))
  have xg := Lib.hid (gr_set14 (g := b) (World.grownBy.refl V2 _) (.int .i64 u0) (.int .i64 u1) (.int .i64 u2) (.int .i64 u3) (.int .i64 u4) (.int .i64 u5) (.int .i64 u6) (.int .i64 u7) (.int .i64 u8) (.int .i64 u9) (.int .i64 u10))
  have x_N := Lib.hid (far_set11 KN.out (some_ne2 NT_N.out) (.int .i64 u0) (.int .i64 u1) (.int .i64 u2) (.int .i64 u3) (.int .i64 u4) (.int .i64 u5) (.int .i64 u6) (.int .i64 u7) (.int .i64 u8) (.int .i64 u9) (.int .i64 u10))
  have xf := Lib.hid (HFo.out.gr xg.out HB0.out)
  have xgg := Lib.hid (gr_trans GG.out xg.out)
  unfold set11 at x0 xgg
  go_wp2_with fail
  go_ret
  exact ⟨rfl, x0.out, xgg.out⟩

set_option maxHeartbeats 1000000 in
theorem move_tp_no (b : Nat) (T : Tk) (L : I3) (nx : Int) (er : Int) (u0 u1 u2 u3 u4 u5 u6 u7 u8 u9 u10 : Int) (w : World) (hF : Fol w) (hb0 : b ≠ 0) (hK : Bk w b 58 (tkc T L)) (hm : moveR T nx = (er, ⟨u0, u1, u2, u3, u4, u5, u6, u7, u8, u9, u10⟩)) (her : er ≠ 0) :
    Calls Tryd.prog 53 #[.pointer (some ⟨b, 0, none⟩), .int .i64 nx] w (TakP b false T L w) := by
  obtain ⟨id, tn, pg, pc, un, k0, k1, k2, k3, st, rn⟩ := T
  obtain ⟨lk, li, la⟩ := L
  have KT := Lib.hid hK
  have HFo := Lib.hid hF
  have HB0 := Lib.hid hb0
  unfold tkc at KT
  dsimp only at KT
  clear hK hF hb0
  unfold TakP tkc
  have GG : Hid (w.grownBy w (some b)) := Lib.hid (World.grownBy.refl _ _)
  have HM : Hid (moveR ⟨id, tn, pg, pc, un, k0, k1, k2, k3, st, rn⟩ nx = (er, ⟨u0, u1, u2, u3, u4, u5, u6, u7, u8, u9, u10⟩)) := Lib.hid hm
  clear hm
  have te : (er != 0) = true := by simpa using her
  clear her
  go_enter Tryd.func53, Tryd.ntmps53
  obtain ⟨qT_0, qT_1, qT_2, qT_3, qT_4, qT_5, qT_6, qT_7, qT_8, qT_9, qT_10, qT_11, qT_12, qT_13⟩ := KT.out.c14t
  have lT := KT.out.lt
  go_wp2_with fail
  refine (move_any ⟨id, tn, pg, pc, un, k0, k1, k2, k3, st, rn⟩ nx _ HFo.out).mono ?_
  rw [HM.out]
  try dsimp only
  rintro e U1 ⟨rfl, bU1⟩
  clear qT_0 qT_1 qT_2 qT_3 qT_4 qT_5 qT_6 qT_7 qT_8 qT_9 qT_10 qT_11 qT_12 qT_13 lT
  replace GG := Lib.hid (gr_trans GG.out (gr_of bU1 _))
  replace KT := Lib.hid (KT.out.below bU1 KT.out.lt)
  replace HFo := Lib.hid (HFo.out.le bU1)
  clear bU1
  dsimp only [tc]
  have kn := Bk.new U1 44 #[.int .i64 u0, .int .i64 u1, .int .i64 u2, .int .i64 u3, .int .i64 u4, .int .i64 u5, .int .i64 u6, .int .i64 u7, .int .i64 u8, .int .i64 u9, .int .i64 u10]
  have ba := (Below.refl U1.heap.size U1).alloc (Nat.le_refl _) (.cells #[.int .i64 u0, .int .i64 u1, .int .i64 u2, .int .i64 u3, .int .i64 u4, .int .i64 u5, .int .i64 u6, .int .i64 u7, .int .i64 u8, .int .i64 u9, .int .i64 u10] 44)
  have nt := Nat.ne_of_lt KT.out.lt
  replace GG := Lib.hid (gr_trans GG.out (gr_of ba _))
  replace KT := Lib.hid (KT.out.below ba KT.out.lt)
  replace HFo := Lib.hid (HFo.out.le ba)
  obtain ⟨gN, hg⟩ : ∃ g, U1.heap.size = g := ⟨_, rfl⟩
  obtain ⟨V2, hW⟩ : ∃ W, U1.alloc (.cells #[.int .i64 u0, .int .i64 u1, .int .i64 u2, .int .i64 u3, .int .i64 u4, .int .i64 u5, .int .i64 u6, .int .i64 u7, .int .i64 u8, .int .i64 u9, .int .i64 u10] 44) = W := ⟨_, rfl⟩
  have KN := Lib.hid kn
  rw [hW] at GG KT HFo KN
  rw [hg] at KN nt
  have HGN := Lib.hid hg
  have HWN := Lib.hid hW
  have NT_N := Lib.hid nt
  clear hW hg kn ba nt
  go_upto_region 2 with fail
  rw [HWN.out]
  try rw [HGN.out]
  clear HWN HGN
  obtain ⟨qN_0, qN_1, qN_2, qN_3, qN_4, qN_5, qN_6, qN_7, qN_8, qN_9, qN_10⟩ := KN.out.c11
  have lN := KN.out.lt
  go_wp2_with fail
  go_ret
  exact ⟨rfl, KT.out, GG.out⟩

theorem move_yes (b : Nat) (T U : Tk) (L : I3) (nx : Int) (w : World) (hF : Fol w) (hb0 : b ≠ 0) (hK : Bk w b 58 (tkc T L)) (hm : moveR T nx = (0, U)) : Calls Tryd.prog 53 #[.pointer (some ⟨b, 0, none⟩), .int .i64 nx] w (TakP b true U L w) := by
  obtain ⟨u0, u1, u2, u3, u4, u5, u6, u7, u8, u9, u10⟩ := U
  exact move_tp_ok b T L nx u0 u1 u2 u3 u4 u5 u6 u7 u8 u9 u10 w hF hb0 hK hm
theorem move_not (b : Nat) (T : Tk) (L : I3) (nx : Int) (w : World) (hF : Fol w) (hb0 : b ≠ 0) (hK : Bk w b 58 (tkc T L)) (hm : (moveR T nx).1 ≠ 0) : Calls Tryd.prog 53 #[.pointer (some ⟨b, 0, none⟩), .int .i64 nx] w (TakP b false T L w) := by
  obtain ⟨⟨er, ⟨u0, u1, u2, u3, u4, u5, u6, u7, u8, u9, u10⟩⟩, hr⟩ : ∃ r, moveR T nx = r := ⟨_, rfl⟩
  rw [hr] at hm
  exact move_tp_no b T L nx er u0 u1 u2 u3 u4 u5 u6 u7 u8 u9 u10 w hF hb0 hK hr hm

set_option maxHeartbeats 1000000 in
theorem hold_tp (b : Nat) (T : Tk) (L : I3) (s : Int) (w : World) (hF : Fol w) (hb0 : b ≠ 0) (hK : Bk w b 58 (tkc T L)) (hok : okT T) (hst : L.1 = 2 → T.st = 1) :
    Calls Tryd.prog 51 #[.pointer (some ⟨b, 0, none⟩), .int .i64 s] w (StP b (holdA T L s) L w) := by
  obtain ⟨id, tn, pg, pc, un, k0, k1, k2, k3, st, rn⟩ := T
  obtain ⟨lk, li, la⟩ := L
  have KT := Lib.hid hK
  have HFo := Lib.hid hF
  have HB0 := Lib.hid hb0
  unfold tkc at KT
  dsimp only at KT
  have HOK := Lib.hid hok
  have HST := Lib.hid hst
  clear hok hst
  clear hK hF hb0
  skip
  skip
  by_cases h1 : lk = 2
  · by_cases h2 : s = 0
    · have HNO : Hid (holdA ⟨id, tn, pg, pc, un, k0, k1, k2, k3, st, rn⟩ ⟨lk, li, la⟩ s = none) := Lib.hid (by unfold holdA; exact if_neg (fun q => q.2.2.1 h2))
      skip
      have t1 : (lk == 2) = true ∧ (lk != 2) = false := by constructor <;> (simp; omega)
      obtain ⟨t1, t1n⟩ := t1
      have t2 : (s == 0) = true ∧ (s != 0) = false := by constructor <;> (simp; omega)
      obtain ⟨t2, t2n⟩ := t2
      clear h1 h2
      have GG : Hid (w.grownBy w (some b)) := Lib.hid (World.grownBy.refl _ _)
      go_enter Tryd.func51, Tryd.ntmps51
      obtain ⟨qT_0, qT_1, qT_2, qT_3, qT_4, qT_5, qT_6, qT_7, qT_8, qT_9, qT_10, qT_11, qT_12, qT_13⟩ := KT.out.c14t
      have lT := KT.out.lt
      go_wp2_with fail
      go_ret
      exact stp_no HNO.out GG.out
    · by_cases h3 : s = heldR la
      · have hs1 := HST.out h1
        have hw : wtB s = true := by rw [h3]; exact heldR_wt (by rw [← h3]; exact h2)
        have HYES : Hid (holdA ⟨id, tn, pg, pc, un, k0, k1, k2, k3, st, rn⟩ ⟨lk, li, la⟩ s = some ⟨id, tn, pg, pc, un, k0, k1, k2, k3, s, rn⟩) := Lib.hid (by unfold holdA; exact if_pos ⟨hs1, h1, h2, h3⟩)
        have HM1 : Hid (moveR ⟨id, tn, pg, pc, un, k0, k1, k2, k3, st, rn⟩ 2 = (0, ⟨id, tn, pg, pc, un, k0, k1, k2, k3, 2, rn⟩)) := Lib.hid (mv_run HOK.out hs1)
        have HM2 : Hid (moveR ⟨id, tn, pg, pc, un, k0, k1, k2, k3, 2, rn⟩ s = (0, ⟨id, tn, pg, pc, un, k0, k1, k2, k3, s, rn⟩)) := Lib.hid (mv_hold (okT_st (s := 2) HOK.out (by decide)) rfl hw)
        have t1 : (lk == 2) = true ∧ (lk != 2) = false := by constructor <;> (simp; omega)
        obtain ⟨t1, t1n⟩ := t1
        have t2 : (s == 0) = false ∧ (s != 0) = true := by constructor <;> (simp; omega)
        obtain ⟨t2, t2n⟩ := t2
        have t3 : (s != heldR la) = false := by simpa using h3
        clear h1 h2 h3 hs1 hw
        have GG : Hid (w.grownBy w (some b)) := Lib.hid (World.grownBy.refl _ _)
        go_enter Tryd.func51, Tryd.ntmps51
        obtain ⟨qT_0, qT_1, qT_2, qT_3, qT_4, qT_5, qT_6, qT_7, qT_8, qT_9, qT_10, qT_11, qT_12, qT_13⟩ := KT.out.c14t
        have lT := KT.out.lt
        go_wp2_with fail
        refine (held_tp la _).mono ?_
        rintro e w1 ⟨rfl, rfl⟩
        go_wp2_with fail
        refine (move_yes b ⟨id, tn, pg, pc, un, k0, k1, k2, k3, st, rn⟩ ⟨id, tn, pg, pc, un, k0, k1, k2, k3, 2, rn⟩ ⟨lk, li, la⟩ 2 _ HFo.out HB0.out KT.out HM1.out).mono ?_
        unfold TakP tkc
        try dsimp only
        rintro e U1 ⟨rfl, kt, gg⟩
        clear qT_0 qT_1 qT_2 qT_3 qT_4 qT_5 qT_6 qT_7 qT_8 qT_9 qT_10 qT_11 qT_12 qT_13 lT
        replace HFo := Lib.hid (HFo.out.gr gg HB0.out)
        have KT := Lib.hid kt
        replace GG := Lib.hid (gr_trans GG.out gg)
        clear kt gg
        go_wp2_with fail
        refine (move_yes b ⟨id, tn, pg, pc, un, k0, k1, k2, k3, 2, rn⟩ ⟨id, tn, pg, pc, un, k0, k1, k2, k3, s, rn⟩ ⟨lk, li, la⟩ s _ HFo.out HB0.out KT.out HM2.out).mono ?_
        unfold TakP tkc
        try dsimp only
        rintro e U2 ⟨rfl, kt, gg⟩
        replace HFo := Lib.hid (HFo.out.gr gg HB0.out)
        have KT := Lib.hid kt
        replace GG := Lib.hid (gr_trans GG.out gg)
        clear kt gg
        go_wp2_with fail
        go_ret
        exact stp_yes HYES.out KT.out GG.out
      · have HNO : Hid (holdA ⟨id, tn, pg, pc, un, k0, k1, k2, k3, st, rn⟩ ⟨lk, li, la⟩ s = none) := Lib.hid (by unfold holdA; exact if_neg (fun q => h3 q.2.2.2))
        have t1 : (lk == 2) = true ∧ (lk != 2) = false := by constructor <;> (simp; omega)
        obtain ⟨t1, t1n⟩ := t1
        have t2 : (s == 0) = false ∧ (s != 0) = true := by constructor <;> (simp; omega)
        obtain ⟨t2, t2n⟩ := t2
        have t3 : (s != heldR la) = true := by simpa using h3
        clear h1 h2 h3
        have GG : Hid (w.grownBy w (some b)) := Lib.hid (World.grownBy.refl _ _)
        go_enter Tryd.func51, Tryd.ntmps51
        obtain ⟨qT_0, qT_1, qT_2, qT_3, qT_4, qT_5, qT_6, qT_7, qT_8, qT_9, qT_10, qT_11, qT_12, qT_13⟩ := KT.out.c14t
        have lT := KT.out.lt
        go_wp2_with fail
        refine (held_tp la _).mono ?_
        rintro e w1 ⟨rfl, rfl⟩
        go_wp2_with fail
        go_ret
        exact stp_no HNO.out GG.out
  · have HNO : Hid (holdA ⟨id, tn, pg, pc, un, k0, k1, k2, k3, st, rn⟩ ⟨lk, li, la⟩ s = none) := Lib.hid (by unfold holdA; exact if_neg (fun q => h1 q.2.1))
    skip
    have t1 : (lk == 2) = false ∧ (lk != 2) = true := by constructor <;> (simp; omega)
    obtain ⟨t1, t1n⟩ := t1
    clear h1
    have GG : Hid (w.grownBy w (some b)) := Lib.hid (World.grownBy.refl _ _)
    go_enter Tryd.func51, Tryd.ntmps51
    obtain ⟨qT_0, qT_1, qT_2, qT_3, qT_4, qT_5, qT_6, qT_7, qT_8, qT_9, qT_10, qT_11, qT_12, qT_13⟩ := KT.out.c14t
    have lT := KT.out.lt
    go_wp2_with fail
    go_ret
    exact stp_no HNO.out GG.out

end Go.Proofs.YtfhlligcbpnkkaaDoor

/-
  Layer 11, the program: a map[int64]int64 as a function (below 0: nothing there); has, add, way; what the iterator of a way promises.
-/
import Derived.Test.YtkffmohgnbnhkaaJa
import Derived.Test.YtkffmohgnbnhkaaJn
import Derived.Test.YtkffmohgnbnhkaaRw
import Derived.Maps.OwnSet
import Derived.Maps.Views
import Derived.Maps.Range
import Derived.Maps.RangeWalk
import Derived.Shelf.Abstract
import Derived.Shelf.RegionOpen
import Derived.WalkKit
import Derived.OwnWalkIn
import Derived.TacticsInMore
import Derived.LoopNIn
import Derived.LoopIn
import Derived.Sort.LoopGhostIn
import Derived.RegionTactic
import Derived.Stop.RegionWithIn
namespace Go.Proofs.Ytkffmohgnbnhkaa
open Go.RowKit Go.Maps Go.Shelf
attribute [local go_sem] Oper.semAt_some
theorem wide_depth : Fence.wide.depth.isSome = false := rfl
attribute [local go_sem] wide_depth

theorem Try.lawI64 : Keyed Try.prog 2 := int_keyed Try.underlying2
theorem keyI64 {x : Int} (h : Fit x) : keyOf Try.prog 2 (.int .i64 x) = some (.int .i64 x) := keyOf_int_mk Try.underlying2 (wf_of_fit h)
theorem Try.zeroI64 (w : World) : (zeroValue 2).run Try.prog w = .ok (.int .i64 0) w := by kernel_rfl

/-- In block b lies a map (n entries at the most) that has just the x with 0 ≤ f x, and there f x. -/
def ZMap (w : World) (b n : Nat) (f : Int → Int) : Prop :=
  ∃ D : DataW Unit, w.ownsMap Try.prog 2 (plainElem Try.prog 2) b n D ∧ (∀ x, Maps.has D (.int .i64 x) = decide (0 ≤ f x)) ∧ (∀ x, 0 ≤ f x → D.atKey (.int .i64 x) (.lit (.int .i64 0)) = .lit (.int .i64 (f x))) ∧ ∀ x, Fit (f x)
section
variable {w w' : World} {b n : Nat} {f : Int → Int}
theorem ZMap.made (w : World) : ZMap (w.alloc (.map #[] 0)) w.heap.size 0 fun _ => -1 :=
  ⟨.map [], World.ownsMap_made w _ _ _, fun _ => rfl, fun _ h => absurd h (show ¬ (0 : Int) ≤ -1 by decide), fun _ => show Fit (-1) by decide⟩
theorem ZMap.block_ (h : ZMap w b n f) (e : w'.heap[b]? = w.heap[b]?) : ZMap w' b n f := by
  obtain ⟨D, ⟨es, ck, hb, r⟩, hf⟩ := h
  exact ⟨D, ⟨es, ck, e.trans hb, r⟩, hf⟩
theorem ZMap.lt (h : ZMap w b n f) : b < w.heap.size := by obtain ⟨D, hD, _⟩ := h; exact hD.lt
theorem ZMap.grown (h : ZMap w b n f) {row : Option Nat} (hg : w.grownBy w' row) (hne : some b ≠ row) : ZMap w' b n f := h.block_ (hg.block b h.lt hne)
theorem ZMap.below (h : ZMap w b n f) (hb : Below w.heap.size w w') : ZMap w' b n f := h.block_ (hb.block b h.lt)
theorem ZMap.mono (h : ZMap w b n f) {n' : Nat} (hn : n ≤ n') : ZMap w b n' f := by
  obtain ⟨D, hD, hf⟩ := h
  exact ⟨D, hD.mono hn, hf⟩
theorem ZMap.same {g : Int → Int} (h : ZMap w b n f) (e : ∀ y, f y = g y) : ZMap w b n g := by
  have : f = g := funext e
  exact this ▸ h
theorem ZMap.fit (h : ZMap w b n f) (x : Int) : Fit (f x) := by obtain ⟨D, _, _, _, hf⟩ := h; exact hf x
/-- 'v, is := m[x]'. -/
theorem ZMap.get (h : ZMap w b n f) {t : TypeId} (ht : Try.prog.underlying t = some (.map 2 2)) {x : Int} (hx : Fit x) : ∃ v, (Instr.lookup t (.map (some b)) (.int .i64 x) true).run Try.prog w = .ok (.tuple #[.int .i64 v, .bool (decide (0 ≤ f x))]) w ∧ (0 ≤ f x → v = f x) := by
  obtain ⟨D, hD, hf, ha, _⟩ := h
  obtain ⟨v, ps, hrun, hv⟩ := hD.look_ok Try.lawI64 ht (Try.zeroI64 w) (plainElem_int Try.underlying2 (wf_of_fit ⟨by decide, by decide⟩)) (keyI64 hx)
  obtain ⟨c, rfl, hc, _⟩ := plainElem_int_inv Try.underlying2 hv
  simp only [Prod.mk.injEq] at hc
  refine ⟨c, by rw [hrun, hf x], fun h0 => ?_⟩
  have h1 := ha x h0
  rw [hc.1] at h1
  simpa using h1
theorem ZMap.put (h : ZMap w b n f) {t : TypeId} (ht : Try.prog.underlying t = some (.map 2 2)) {x v : Int} (hx : Fit x) (hv : Fit v) (h0 : 0 ≤ v) (hn : n < 1000) :
    ∃ w', (Instr.mapUpdate t (.map (some b)) (.int .i64 x) (.int .i64 v)).run Try.prog w = .ok () w' ∧ ZMap w' b (n + 1) (updZ f x v) ∧ w.grownBy w' (some b) := by
  obtain ⟨D, hD, hf, ha, hfit⟩ := h
  obtain ⟨w', hrun, h1, h2⟩ := hD.update Try.lawI64 ht (by unfold maxLen; omega) (keyI64 hx) (plainElem_int Try.underlying2 (wf_of_fit hv))
  refine ⟨w', hrun, ⟨_, h1, fun y => ?_, fun y hy => ?_, fun y => ?_⟩, h2⟩
  · by_cases e : y = x
    · subst e
      rw [has_put_same hD.isMap (by trivial), updZ_same]
      exact (decide_eq_true h0).symm
    · rw [has_put_other (by intro e'; injection e' with _ e'; exact e e'), hf y, updZ_ne _ _ e]
  · by_cases e : y = x
    · subst e
      rw [atKey_put_same hD.isMap (by trivial), updZ_same]
    · rw [updZ_ne _ _ e] at hy ⊢
      rw [atKey_put_other (by intro e'; injection e' with _ e'; exact e e')]
      exact ha y hy
  · unfold updZ
    split
    · exact hv
    · exact hfit y
theorem ZMap.len (h : ZMap w b n f) {t : TypeId} (ht : Try.prog.underlying t = some (.map 2 2)) : ∃ k : Nat, (Builtin.len_ #[t] 3 #[.map (some b)]).run Try.prog w = .ok (.int .i64 (k : Int)) w := by
  obtain ⟨D, hD, _⟩ := h
  exact ⟨_, hD.len (ty := 3) ht⟩
theorem ZMap.map_ (h : ZMap w b n f) : ∃ es ck, w.heap[b]? = some (.map es ck) := by
  obtain ⟨D, ⟨es, ck, hb, _⟩, _⟩ := h
  exact ⟨es, ck, hb⟩
theorem ZMap.nebk (h : ZMap w b n f) {g : Nat} {t : TypeId} {cs : Array Value} (hk : Bk w g t cs) : g ≠ b := by
  rintro rfl
  obtain ⟨es, ck, e⟩ := h.map_
  rw [show w.heap[g]? = _ from hk] at e
  cases e
end
theorem run_makeMapW (n : Int) (w : World) : (Instr.makeMap 46 (some (.int .i64 n))).run Try.prog w = .ok (.map (some w.heap.size)) (w.alloc (.map #[] 0)) := by
  simp [Instr.makeMap, run_underlying Try.underlying46, go_sem]
theorem run_makeMapP (n : Int) (w : World) : (Instr.makeMap 45 (some (.int .i64 n))).run Try.prog w = .ok (.map (some w.heap.size)) (w.alloc (.map #[] 0)) := by
  simp [Instr.makeMap, run_underlying Try.underlying45, go_sem]

theorem phas_any (b n : Nat) (f : Int → Int) (x : Int) (w : World) (h : ZMap w b n f) (hx : Fit x) :
    Calls Try.prog 23 #[.map (some b), .int .i64 x] w (fun e w' => e = .returned (.bool (decide (0 ≤ f x))) ∧ w' = w) := by
  obtain ⟨v, hg, -⟩ := h.get (t := 46) Try.underlying46 hx
  go_enter Try.func23, Try.ntmps23
  go_wp2_with fail
  go_ret
  exact ⟨rfl, rfl⟩

theorem padd_any (b n : Nat) (f : Int → Int) (x y : Int) (w : World) (h : ZMap w b n f) (hx : Fit x) (hy : Fit y) (h0 : 0 ≤ x) (hn : n < 1000) :
    Calls Try.prog 34 #[.map (some b), .int .i64 x, .int .i64 y] w (fun e w' => (0 ≤ f y ∧ e = .returned (.bool false) ∧ w' = w) ∨ (f y < 0 ∧ e = .returned (.bool true) ∧ ZMap w' b (n + 1) (updZ f y x) ∧ w.grownBy w' (some b))) := by
  have HC := Lib.hid (phas_any b n f y w h hy)
  obtain ⟨w1, hp, hz, hg⟩ := h.put (t := 46) Try.underlying46 hy hx h0 hn
  by_cases hf : 0 ≤ f y
  · rw [decide_eq_true hf] at HC
    have HF := Lib.hid hf
    clear hf hp hz hg
    go_enter Try.func34, Try.ntmps34
    go_wp2_with fail
    refine HC.out.mono ?_
    rintro e w2 ⟨rfl, rfl⟩
    go_wp2_with fail
    go_ret
    exact .inl ⟨HF.out, rfl, rfl⟩
  · rw [decide_eq_false hf] at HC
    have HF := Lib.hid (show f y < 0 by omega)
    have HZ := Lib.hid hz
    have HG := Lib.hid hg
    clear hf hz hg
    go_enter Try.func34, Try.ntmps34
    go_wp2_with fail
    refine HC.out.mono ?_
    rintro e w2 ⟨rfl, rfl⟩
    go_wp2_with fail
    go_ret
    exact .inr ⟨HF.out, rfl, HZ.out, HG.out⟩

/-- What lies below C, and two blocks from g on, stay. -/
def KpN (C g : Nat) (X Y : World) : Prop := X.heap.size ≤ Y.heap.size ∧ ∀ k, (k < C ∨ k = g ∨ k = g + 1) → k < X.heap.size → Y.heap[k]? = X.heap[k]?
theorem KpN.refl (C g : Nat) (X : World) : KpN C g X X := ⟨Nat.le_refl _, fun _ _ _ => rfl⟩
theorem KpN.trans {C g : Nat} {X Y Z : World} (h : KpN C g X Y) (k : KpN C g Y Z) : KpN C g X Z :=
  ⟨Nat.le_trans h.1 k.1, fun i hi hx => (k.2 i hi (Nat.lt_of_lt_of_le hx h.1)).trans (h.2 i hi hx)⟩
theorem KpN.of_below {C g B : Nat} {X Y : World} (h : Below B X Y) (hC : C ≤ B) (hg : g + 1 < B) : KpN C g X Y :=
  ⟨h.size, fun k hk _ => h.block k (by omega)⟩
theorem KpN.of_turn {C g B : Nat} {X Y : World} (h : Turn B X Y) (hC : C ≤ B) (hg : g + 1 < B) : KpN C g X Y :=
  ⟨h.size, fun k hk hx => by
    have e : X.heap[k]? = some X.heap[k] := Array.getElem?_eq_getElem hx
    rw [e]
    exact h.same k _ e (.inr (by omega))⟩
theorem KpN.of_grown {C g : Nat} {X Y : World} {row : Option Nat} (h : X.grownBy Y row) (hC : ∀ k, row = some k → C ≤ k ∧ k ≠ g ∧ k ≠ g + 1) : KpN C g X Y :=
  ⟨h.size, fun k hk hx => h.block k hx (fun e => by obtain ⟨h1, h2, h3⟩ := hC k e.symm; omega)⟩

/-- What the iterator reads: the map, in its box, and who. -/
structure LieW (C g b n : Nat) (W : World) (f : Int → Int) (x : Int) : Prop where
  low : b < C
  map : ZMap W b n f
  box : Bk W g 46 #[.map (some b)]
  num : Bk W (g + 1) 2 #[.int .i64 x]
theorem LieW.kept {C g b n : Nat} {X Y : World} {f : Int → Int} {x : Int} (h : LieW C g b n X f x) (hk : KpN C g X Y) : LieW C g b n Y f x :=
  ⟨h.low, h.map.block_ (hk.2 b (.inl h.low) h.map.lt), (hk.2 g (by omega) h.box.lt).trans h.box, (hk.2 (g + 1) (by omega) h.num.lt).trans h.num⟩

theorem way_any (b : Nat) (x : Int) (w : World) :
    Calls Try.prog 31 #[.map (some b), .int .i64 x] w fun e w' => e = .returned (.func (.func 38) #[] #[.pointer (some ⟨w.heap.size, 0, none⟩), .pointer (some ⟨w.heap.size + 1, 0, none⟩)]) ∧ w' = (w.alloc (.cells #[.map (some b)] 46)).alloc (.cells #[.int .i64 x] 2) := by
  go_enter Try.func31, Try.ntmps31
  go_wp2_with fail
  go_ret
  exact ⟨rfl, rfl⟩
theorem lie_new {C b n : Nat} {w : World} {f : Int → Int} (h : ZMap w b n f) (hC : b < C) (x : Int) :
    LieW C w.heap.size b n ((w.alloc (.cells #[.map (some b)] 46)).alloc (.cells #[.int .i64 x] 2)) f x := by
  have h2 := Bk.new (w.alloc (.cells #[.map (some b)] 46)) 2 #[.int .i64 x]
  rw [size_alloc] at h2
  exact ⟨hC, h.below (((Below.refl w.heap.size w).alloc (Nat.le_refl _) _).alloc (by simp) _), (Bk.new w 46 #[.map (some b)]).alloc _, h2⟩
theorem eg_way (args : Array Value) (w : World) : (callFunc 38 args).run Try.prog w = .ok (.enter 38 args) w := enters_of Try.func38 (by kernel_rfl) rfl args w

set_option maxRecDepth 100000 in
set_option maxHeartbeats 2000000 in
theorem way1_seq (r : Nat) (C g b n : Nat) (f : Int → Int) (x : Int) (w : World) (hx : Fit x) (hCw : C ≤ w.heap.size) (hl : LieW C g b n w f x) :
    SeqW r Try.prog 38 #[.pointer (some ⟨g, 0, none⟩), .pointer (some ⟨g + 1, 0, none⟩)] (KpN C g) f (f x) w := by
  intro l J Z W hW hJ hY k0 h0
  have hlW := hl.kept (KpN.of_below hW hCw hl.num.lt)
  have HL := Lib.hid hlW
  have HY := Lib.hid hY
  obtain ⟨v0, hg0, hv0⟩ := hlW.map.get (t := 46) Try.underlying46 hx
  have HV0 := Lib.hid hv0
  have c0 := HL.out.box.one
  have c2 := HL.out.num.one
  obtain ⟨x0, hx0⟩ : ∃ y, f x = y := ⟨_, rfl⟩
  rw [hx0] at hg0 h0 HV0
  have HX0 : Hid (Fit x0) := Lib.hid (by rw [← hx0]; exact hlW.map.fit x)
  clear hl hJ hY hx0 hlW hv0
  refine callsIn_of_wp Try.func38 rfl trivial ?_
  simp only [Try.ntmps38, List.size_toArray, List.length_cons, List.length_nil, Nat.reduceAdd, Nat.reduceSub, Array.replicate_succ, Array.replicate_zero, List.push_toArray, List.append_toArray, List.nil_append, List.cons_append]
  gi_wp2
  clear hg0 c0 c2
  gi_loopg [4, 5] k0 (fun q s4 s5 wr => ∃ (v y : Int), s4 = .int .i64 v ∧ s5 = .bool (decide (0 ≤ y)) ∧ Hid (0 ≤ y → v = y) ∧ Hid (Fit y) ∧ Hid (LieW C g b n wr f x) ∧ Hid (J q y wr))
  case atStart => exact ⟨v0, x0, rfl, rfl, HV0, HX0, HL, Lib.hid h0⟩
  case round =>
    rename World => wr
    obtain ⟨v, y, rfl, rfl, HV, HFY, L2, J2⟩ := hrel
    clear HV0 HX0 HL h0
    by_cases h1 : 0 ≤ y
    · obtain ⟨fn, tmps, assign, body, hy, hR⟩ := HY.out _ y wr J2.out h1
      obtain rfl := HV.out h1
      rw [decide_eq_true h1]
      have HFX := HFY.out
      clear HV
      gi_wp2
      refine hR.mono ?_
      rintro e W3 (⟨rfl, ⟨q', hq', hj3⟩, hk3⟩ | ⟨rfl, hz⟩)
      rotate_left
      · have HZ := Lib.hid hz
        clear hz hR hy
        gi_wp2
        go_end0
        exact ⟨⟨_, rfl⟩, .inr HZ.out⟩
      have l3 := L2.out.kept hk3
      have L3 := Lib.hid l3
      obtain ⟨v3, hg3, hv3⟩ := l3.map.get (t := 46) Try.underlying46 HFX
      obtain ⟨y3, hy3⟩ : ∃ y3, f v = y3 := ⟨_, rfl⟩
      have HF3 : Hid (Fit y3) := Lib.hid (by rw [← hy3]; exact l3.map.fit v)
      rw [hy3] at hg3 hv3 hj3
      have HV3 := Lib.hid hv3
      have J3 := Lib.hid hj3
      have HQ := Lib.hid hq'
      have c0 := l3.box.one
      clear hk3 hj3 hR hy hv3 hy3 l3 hq' HFX
      gi_wp2
      gi_roundg q'
      case rel => exact ⟨v3, y3, rfl, rfl, HV3, HF3, L3, J3⟩
      case measure => exact HQ.out
    · rw [decide_eq_false h1]
      have H1 := Lib.hid h1
      clear h1
      gi_wp2_with (refine wpListIn_skip (by kernel_rfl) (by kernel_rfl) ?_; simp only [Act.put, List.setIfInBounds_toArray, List.set_cons_zero, List.set_cons_succ])
      go_end0
      exact ⟨⟨_, rfl⟩, .inl ⟨_, y, by have := H1.out; omega, J2.out⟩⟩

end Go.Proofs.Ytkffmohgnbnhkaa

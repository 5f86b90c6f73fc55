/-
  The iterator of a list's nodes: what it promises to whoever ranges over it.
-/
import Derived.Test.YtiheeehegjfmgaaRs
import Derived.Test.YtiheeehegjfmgaaCp
import Derived.Shelf.Abstract
import Derived.Shelf.RegionOpen
import Derived.WalkKit
import Derived.OwnWalkIn
import Derived.TacticsInMore
import Derived.LoopNIn
import Derived.LoopIn
import Derived.Sort.LoopGhostIn
import Derived.RegionTactic
import Derived.BigQuiet
import Derived.Deep.QuietTactic
import Derived.Stop.RegionWithIn
namespace Go.Proofs.Ytiheeehegjfmgaa
open Go.RowKit Go.Shelf
attribute [local go_sem] Oper.semAt_some
theorem wide_depth : Fence.wide.depth.isSome = false := rfl
attribute [local go_sem] wide_depth

/-- What lies below C, and two blocks from g on, stay. -/
def KpN (C g : Nat) (X Y : World) : Prop := X.heap.size ≤ Y.heap.size ∧ ∀ k, (k < C ∨ k = g ∨ k = g + 1) → k < X.heap.size → Y.heap[k]? = X.heap[k]?
theorem KpN.trans {C g : Nat} {X Y Z : World} (h : KpN C g X Y) (k : KpN C g Y Z) : KpN C g X Z :=
  ⟨Nat.le_trans h.1 k.1, fun i hi hx => (k.2 i hi (Nat.lt_of_lt_of_le hx h.1)).trans (h.2 i hi hx)⟩
theorem KpN.of_below {C g B : Nat} {X Y : World} (h : Below B X Y) (hC : C ≤ B) (hg : g + 1 < B) : KpN C g X Y :=
  ⟨h.size, fun k hk _ => h.block k (by omega)⟩
theorem KpN.of_turn {C g B : Nat} {X Y : World} (h : Turn B X Y) (hC : C ≤ B) (hg : g + 1 < B) : KpN C g X Y :=
  ⟨h.size, fun k hk hx => by
    have e : X.heap[k]? = some X.heap[k] := Array.getElem?_eq_getElem hx
    rw [e]
    exact h.same k _ e (.inr (by omega))⟩
/-- .. a cell of another block is written. -/
theorem KpN.set_ {C g : Nat} {X : World} {p : Addr} (hC : C ≤ p.block) (h0 : p.block ≠ g) (h1 : p.block ≠ g + 1) (v : Value) : KpN C g X (X.setCell p v) :=
  ⟨by simp [World.setCell], fun k hk _ => Below.heap_setCell X p v k (by omega)⟩

/-- What the iterator reads: all that lay there, the chains, and the list's number. -/
structure LieN (C g : Nat) (w0 W : World) (cs : Array Value) (i : Nat) : Prop where
  old : ∀ k, k < C → W.heap[k]? = w0.heap[k]?
  box : Bk W g 24 cs
  num : Bk W (g + 1) 3 #[.int .i64 i]
theorem LieN.kept {C g : Nat} {w0 X Y : World} {cs : Array Value} {i : Nat} (h : LieN C g w0 X cs i) (hk : KpN C g X Y) (hC : C ≤ X.heap.size) : LieN C g w0 Y cs i :=
  ⟨fun k hk' => (hk.2 k (.inl hk') (by omega)).trans (h.old k hk'), (hk.2 g (by omega) h.box.lt).trans h.box, (hk.2 (g + 1) (by omega) h.num.lt).trans h.num⟩
theorem LieN.below {C g : Nat} {w0 X Y : World} {cs : Array Value} {i : Nat} (h : LieN C g w0 X cs i) (hb : Below X.heap.size X Y) (hC : C ≤ X.heap.size) : LieN C g w0 Y cs i :=
  h.kept (KpN.of_below hb hC h.num.lt) hC
theorem LieN.cell {C g : Nat} {w0 W : World} {cs : Array Value} {i : Nat} (h : LieN C g w0 W cs i) {p : Addr} (hp : p.block < C) : W.cell? p = w0.cell? p := World.cell?_of_block (h.old _ hp)

theorem nodes_any (v : Value) (cs : Array Value) (hv : v = .agg cs) (hc : ∃ x y z, cs = #[x, y, z]) (i : Int) (w : World) :
    Calls Try.prog 42 #[v, .int .i64 i] w fun e w' => e = .returned (.func (.func 49) #[] #[.pointer (some ⟨w.heap.size, 0, none⟩), .pointer (some ⟨w.heap.size + 1, 0, none⟩)]) ∧ w' = (w.alloc (.cells cs 24)).alloc (.cells #[.int .i64 i] 3) := by
  subst hv
  obtain ⟨x, y, z, rfl⟩ := hc
  go_enter Try.func42, Try.ntmps42
  go_wp2
  go_ret
  exact ⟨rfl, rfl⟩
theorem lie_new {w0 w : World} (hb : ∀ k, k < w0.heap.size → w.heap[k]? = w0.heap[k]?) (hs : w0.heap.size ≤ w.heap.size) (cs : Array Value) (i : Nat) :
    LieN w0.heap.size w.heap.size w0 ((w.alloc (.cells cs 24)).alloc (.cells #[.int .i64 i] 3)) cs i := by
  have h2 := Bk.new (w.alloc (.cells cs 24)) 3 #[.int .i64 (i : Int)]
  rw [size_alloc] at h2
  exact ⟨fun k hk => ((((Below.refl w.heap.size w).alloc (Nat.le_refl _) _).alloc (by simp) _).block k (by omega)).trans (hb k hk), (Bk.new w 24 cs).alloc _, h2⟩

set_option maxRecDepth 100000 in
set_option maxHeartbeats 2000000 in
theorem nodes1_seq (r : Nat) (C g : Nat) (A B D : Option Addr) (n a m b k d : Nat) (next head : List Int) (i : Nat) (w0 w : World) (hx : Ints w0 A n next) (hh : Ints w0 B m head) (hC : C = w0.heap.size) (hCw : C ≤ w.heap.size) (hi : i < m)
    (hl : LieN C g w0 w #[.slice A n a, .slice B m b, .slice D k d] i) :
    SeqN r Try.prog 49 #[.pointer (some ⟨g, 0, none⟩), .pointer (some ⟨g + 1, 0, none⟩)] (KpN C g) (nth head i) next w := by
  subst hC
  intro l J Z W hW hJ hY k0 h0
  have HL := Lib.hid (hl.kept (KpN.of_below hW hCw hl.num.lt) hCw)
  have HJ := Lib.hid hJ
  have HY := Lib.hid hY
  have HX := Lib.hid hx
  have LX := Lib.hid hx.1
  have HS : Hid (w0.heap.size ≤ W.heap.size) := Lib.hid (Nat.le_trans hCw hW.size)
  obtain ⟨bB, oB, rfl, hbB, hcB⟩ := hh.2.2.2 (by omega)
  have c0 := HL.out.box.e0
  have c1 := HL.out.box.e1
  have c2 := HL.out.num.one
  have ci := (HL.out.cell (p := ⟨bB, oB + i, none⟩) hbB).trans (hcB i hi)
  have hm := hh.2.1
  have hn := hx.2.1
  obtain ⟨x0, hx0⟩ : ∃ x, nth head i = x := ⟨_, rfl⟩
  rw [hx0] at ci h0
  clear hl hJ hY hx hh hbB hcB hx0 hm
  refine callsIn_of_wp Try.func49 rfl trivial ?_
  simp only [Try.ntmps49, List.size_toArray, List.length_cons, List.length_nil, Nat.reduceAdd, Nat.reduceSub, Array.replicate_succ, Array.replicate_zero, List.push_toArray, List.append_toArray, List.nil_append, List.cons_append]
  gi_wp2
  clear ci c0 c1 c2
  gi_loopg [4] k0 (fun q s4 wr => ∃ x : Int, s4 = .int .i64 x ∧ LieN w0.heap.size g w0 wr #[.slice A n a, .slice (some ⟨bB, oB, none⟩) m b, .slice D k d] i ∧ w0.heap.size ≤ wr.heap.size ∧ J q x wr)
  case atStart => exact ⟨x0, rfl, HL.out, HS.out, h0⟩
  case round =>
    obtain ⟨x, rfl, hl2, hs2, hj⟩ := hrel
    have L2 := Lib.hid hl2
    have S2 := Lib.hid hs2
    have J2 := Lib.hid hj
    have c0 := hl2.box.e0
    clear hl2 hs2 hj
    by_cases h1 : 0 ≤ x
    · by_cases h2 : x < (n : Int)
      · obtain ⟨fn, tmps, assign, body, hy, hR⟩ := HY.out _ x wr J2.out h1 (by rw [LX.out]; exact h2)
        obtain ⟨bA, oA, rfl, hbA, hcA⟩ := HX.out.2.2.2 (by omega)
        have hbA' : bA < w0.heap.size := hbA
        have cx := hcA x.toNat (by omega)
        obtain ⟨y, hy'⟩ : ∃ y, nth next x.toNat = y := ⟨_, rfl⟩
        rw [hy'] at cx
        have HYX := Lib.hid hy'
        have hxz : ((x.toNat : Nat) : Int) = x := by omega
        clear hbA hcA hy'
        gi_wp2
        refine hR.mono ?_
        rintro e W3 (⟨rfl, ⟨q', hq', hj3⟩, hk3⟩ | ⟨rfl, hz⟩)
        rotate_left
        · have HZ := Lib.hid hz
          clear hz hR hy c0 cx
          gi_wp2
          exact bodyPost_ret (results_none rfl _ _ _) rfl ⟨⟨_, rfl⟩, .inr HZ.out⟩
        have L3 := Lib.hid (L2.out.kept hk3 S2.out)
        have d0 := L3.out.box.e0
        have dx := (L3.out.cell (p := ⟨bA, oA + x.toNat, none⟩) hbA').trans cx
        have S3 : Hid (w0.heap.size ≤ W3.heap.size) := Lib.hid (Nat.le_trans S2.out hk3.1)
        have J3 := Lib.hid hj3
        clear hk3 hj3 hR hy
        gi_wp2
        gi_roundg q'
        case rel => exact ⟨y, rfl, L3.out, S3.out, HYX.out ▸ J3.out⟩
        case measure => exact hq'
      · gi_wp2
        go_end0
        exact ⟨⟨_, rfl⟩, .inl ⟨_, x, .inr (by rw [LX.out]; omega), J2.out⟩⟩
    · gi_wp2
      go_end0
      exact ⟨⟨_, rfl⟩, .inl ⟨_, x, .inl (by omega), J2.out⟩⟩

end Go.Proofs.Ytiheeehegjfmgaa

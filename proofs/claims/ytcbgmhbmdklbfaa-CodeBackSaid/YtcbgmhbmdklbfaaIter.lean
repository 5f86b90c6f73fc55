/-
  The iterators of layer 4's text: the head of what is left, and the instructions of a text, one by one.
-/
import Derived.Test.YtcbgmhbmdklbfaaRange
import Derived.Test.YtcbgmhbmdklbfaaRMath
import Derived.Test.YtcbgmhbmdklbfaaRows
import Derived.Shelf.Abstract
import Derived.Shelf.RegionOpen
import Derived.WalkKit
import Derived.OwnWalkIn
import Derived.TacticsInMore
import Derived.LoopNIn
import Derived.LoopIn
import Derived.RegionTactic
import Derived.BigQuiet
import Derived.Deep.QuietTactic
import Derived.Stop.RegionWithIn
namespace Go.Proofs.Ytcbgmhbmdklbfaa
open Go.RowKit Go.Shelf
attribute [local go_sem] Oper.semAt_some
theorem wide_depth : Fence.wide.depth.isSome = false := rfl
attribute [local go_sem] wide_depth

/-- A slice of octets in blocks below B reads as a list; it has room for no fewer. -/
def OctB (B : Nat) (w : World) (A : Option Addr) (n c : Nat) (rs : List Int) : Prop :=
  rs.length = n ∧ (n ≤ c ∧ c ≤ 9223372036854775807) ∧ (∀ z ∈ rs, Oct z) ∧ (0 < n → ∃ b o, A = some ⟨b, o, none⟩ ∧ b < B ∧ ∀ j, j < n → w.cell? ⟨b, o + j, none⟩ = some (.int .u8 (nth rs j)))

section
variable {B : Nat} {w w' : World} {A : Option Addr} {n c : Nat} {rs : List Int}
theorem OctB.below (h : OctB B w A n c rs) (hb : Below B w w') : OctB B w' A n c rs :=
  ⟨h.1, h.2.1, h.2.2.1, fun hn => by
    obtain ⟨b, o, e, hlt, hc⟩ := h.2.2.2 hn
    exact ⟨b, o, e, hlt, fun j hj => (hb.cell (p := ⟨b, o + j, none⟩) hlt).trans (hc j hj)⟩⟩
theorem OctB.take (h : OctB B w A n c rs) {k : Nat} (hk : k ≤ n) : OctB B w A k c (rs.take k) := by
  obtain ⟨h1, h2, h3, h4⟩ := h
  refine ⟨by rw [List.length_take]; omega, by omega, fun z hz => h3 z (List.mem_of_mem_take hz), fun hn => ?_⟩
  obtain ⟨b, o, e, hlt, hc⟩ := h4 (by omega)
  exact ⟨b, o, e, hlt, fun j hj => by rw [nth_take hj]; exact hc j (by omega)⟩
theorem OctB.drewN (h : OctB B w A n c rs) (m : Nat) : OctB B (w.drewN m) A n c rs := h
theorem OctB.cut (h : OctB B w A n c rs) {k : Nat} (hk : k ≤ n) : OctB B w (A.map (·.add k)) (n - k) (c - k) (rs.drop k) := by
  obtain ⟨h1, h2, h3, h4⟩ := h
  refine ⟨by rw [List.length_drop]; omega, by omega, fun z hz => h3 z (List.mem_of_mem_drop hz), fun hn => ?_⟩
  obtain ⟨b, o, rfl, hlt, hcell⟩ := h4 (by omega)
  refine ⟨b, o + k, by simp [Addr.add_lit], hlt, fun j hj => ?_⟩
  rw [nth_drop, Nat.add_assoc]
  exact hcell (k + j) (by omega)
theorem OctB.none_ (h : OctB B w A n c rs) {k : Nat} (hk : k ≤ n) (hc : c = k) : OctB B w A (n - k) (c - k) (rs.drop k) := by
  obtain ⟨h1, h2, h3, h4⟩ := h
  refine ⟨by rw [List.length_drop]; omega, by omega, fun z hz => h3 z (List.mem_of_mem_drop hz), fun hn => by omega⟩
theorem OctB.octs (h : OctB B w A n c rs) (hB : B ≤ w.heap.size) (hn : n ≤ 140737488351232) : Octs w A n rs :=
  ⟨h.1, hn, h.2.2.1, fun h0 => by
    obtain ⟨b, o, e, hlt, hc⟩ := h.2.2.2 h0
    exact ⟨b, o, e, by omega, hc⟩⟩
end

/-- What head hands back. -/
def HeadAns (B : Nat) (n : Nat) (rs : List Int) (w : World) (e : Ending) (w' : World) : Prop :=
  ∃ A' c', e = .returned (.tuple #[.int .i64 (hdV rs), .slice A' (n - 1) c']) ∧ OctB B w' A' (n - 1) c' (rs.drop 1) ∧ Below w.heap.size w w'

set_option maxHeartbeats 1000000 in
theorem head_any (B : Nat) (A : Option Addr) (n c : Nat) (rs : List Int) (w : World) (h : OctB B w A n c rs) :
    Calls Try.prog 46 #[.slice A n c] w (HeadAns B n rs w) := by
  rcases Nat.eq_zero_or_pos n with h0 | hpos
  · subst h0
    have hrs : rs = [] := List.eq_nil_of_length_eq_zero h.1
    subst hrs
    clear h
    go_enter Try.func46, Try.ntmps46
    go_wp2
    go_ret2
    exact ⟨none, 0, rfl, ⟨rfl, by omega, by simp, fun h => by omega⟩, Below.refl _ _⟩
  · obtain ⟨b, o, rfl, hlt, hcell⟩ := h.2.2.2 hpos
    have hc0 := hcell 0 hpos
    rw [Nat.add_zero] at hc0
    have hoct := nth_oct h.2.2.1 0
    unfold Oct at hoct
    obtain ⟨ho0, ho1⟩ := hoct
    have hnc := h.2.1
    have hn0 : ((n : Int) == 0) = false := by simp; omega
    have hn1 : (1 : Int) ≤ (n : Int) := by omega
    have hwr : IntKind.i64.wrap (nth rs 0) = nth rs 0 := by rw [IntKind.wrap_i64]; omega
    by_cases hc1 : c = 1
    · have HR := Lib.hid (h.none_ (k := 1) (by omega) hc1)
      clear h hcell
      go_enter Try.func46, Try.ntmps46
      go_wp2
      go_quiet (fail)
      go_wp2
      go_ret2
      exact ⟨_, 0, rfl, by have := HR.out; rw [hc1] at this; exact this.drewN nq, below_drewN (Below.refl _ _) nq⟩
    · have HR := Lib.hid (h.cut (k := 1) (by omega))
      clear h hcell
      go_enter Try.func46, Try.ntmps46
      go_wp2
      go_quiet (fail)
      go_wp2
      go_ret2
      exact ⟨_, c - 1, rfl, HR.out.drewN nq, below_drewN (Below.refl _ _) nq⟩

theorem instrs_any (A : Option Addr) (n c : Nat) (w : World) :
    Calls Try.prog 48 #[.slice A n c] w fun e w' => e = .returned (.func (.func 50) #[] #[.pointer (some ⟨w.heap.size, 0, none⟩)]) ∧ w' = w.alloc (.cells #[.slice A n c] 35) := by
  go_enter Try.func48, Try.ntmps48
  go_wp2
  go_ret
  exact ⟨rfl, rfl⟩

theorem programs_any (A : Option Addr) (n c : Nat) (w : World) :
    Calls Try.prog 38 #[.slice A n c] w fun e w' => e = .returned (.func (.func 45) #[] #[.pointer (some ⟨w.heap.size, 0, none⟩)]) ∧ w' = w.alloc (.cells #[.slice A n c] 35) := by
  go_enter Try.func38, Try.ntmps38
  go_wp2
  go_ret
  exact ⟨rfl, rfl⟩

/-- How many a slice holds. -/
def lenV : Value → Nat
  | .slice _ n _ => n
  | _ => 0

/-- The instructions of a text, one by one. -/
theorem insAt_all (rs : List Int) {k : Nat} (h1 : 4 * k ≤ rs.length) (h2 : rs.length < 4 * k + 4) : insAt rs 0 k = insOf rs := by
  unfold insOf
  rw [show rs.length / 4 = k by omega]

/-- What is left, behind a step of k. -/
theorem OctB.step {B : Nat} {w : World} {b o n c : Nat} {rs : List Int} (h : OctB B w (some ⟨b, o, none⟩) n c rs) {k : Nat} (hk : k ≤ n) : OctB B w (if c = k then some ⟨b, o, none⟩ else some ⟨b, o + k, none⟩) (n - k) (c - k) (rs.drop k) := by
  split
  · rename_i e; exact h.none_ hk e
  · have := h.cut hk
    simpa [Addr.add_lit] using this

/-- The relation of the loop: k instructions were handed over. -/
def IRel (B : Nat) (rs : List Int) (J : List I3 → World → Prop) (t : Value) (wr : World) : Prop :=
  ∃ (k nR cR : Nat) (R : Option Addr), t = .slice R nR cR ∧ 4 * k ≤ rs.length ∧ B ≤ wr.heap.size ∧ OctB B wr R nR cR (rs.drop (4 * k)) ∧ J (insAt rs 0 k) wr

def encI (x : I3) : Array Value := #[.agg #[.int .i64 x.1, .int .i64 x.2.1, .int .i64 x.2.2]]

set_option maxRecDepth 100000 in
set_option maxHeartbeats 2000000 in
theorem instrs1_seq (m : Nat) (B g : Nat) (A : Option Addr) (n c : Nat) (rs : List Int) (w : World) (hg : Bk w g 35 #[.slice A n c]) (h : OctB B w A n c rs) (hB : B ≤ w.heap.size) :
    SeqV m Try.prog 50 #[.pointer (some ⟨g, 0, none⟩)] encI (fun x _ => FitI x) (Below B) (fun xs _ => xs = insOf rs) (rs.length / 4) w := by
  intro l J W hW hJ hY h0
  have c0 := (hg.below hW hg.lt).one
  have HO := Lib.hid (h.below (hW.mono hB))
  have HJ := Lib.hid hJ
  have HY := Lib.hid hY
  clear hg h hJ hY
  refine callsIn_of_wp Try.func50 rfl trivial ?_
  simp only [Try.ntmps50, List.size_toArray, List.length_cons, List.length_nil, Nat.reduceAdd, Nat.reduceSub, Array.replicate_succ, Array.replicate_zero, List.push_toArray, List.append_toArray, List.nil_append, List.cons_append]
  gi_wp2
  gi_loopw [3] (fun t wr => IRel B rs J t wr) (fun t _ => lenV t)
  case atStart => exact ⟨0, n, c, A, rfl, by omega, Nat.le_trans hB hW.size, HO.out, h0⟩
  case round =>
    obtain ⟨k, nR, cR, R, rfl, hk, hbw, hoc, hj⟩ := hrel
    have HOC := Lib.hid hoc
    have HJS := Lib.hid hj
    have HBW := Lib.hid hbw
    have hl := hoc.1
    rw [List.length_drop] at hl
    have hnc := hoc.2.1
    by_cases h4 : 4 ≤ nR
    · obtain ⟨b, o, rfl, hlt, hcell⟩ := hoc.2.2.2 (by omega)
      have hc0 := hcell 0 (by omega)
      have hc1 := hcell 1 (by omega)
      have hc2 := hcell 2 (by omega)
      have hc3 := hcell 3 (by omega)
      rw [Nat.add_zero] at hc0
      have HFI : Hid (FitI (nth (rs.drop (4 * k)) 0, nth (rs.drop (4 * k)) 1 * 256 + nth (rs.drop (4 * k)) 2, nth (rs.drop (4 * k)) 3)) := Lib.hid (by
        have a0 := nth_oct hoc.2.2.1 0
        have a1 := nth_oct hoc.2.2.1 1
        have a2 := nth_oct hoc.2.2.1 2
        have a3 := nth_oct hoc.2.2.1 3
        unfold Oct at a0 a1 a2 a3
        simp only [FitI, Fit]
        omega)
      have b0 := nth_oct hoc.2.2.1 0
      have b1 := nth_oct hoc.2.2.1 1
      have b2 := nth_oct hoc.2.2.1 2
      have b3 := nth_oct hoc.2.2.1 3
      unfold Oct at b0 b1 b2 b3
      generalize hv0 : nth (rs.drop (4 * k)) 0 = v0 at hc0 b0 HFI
      generalize hv1 : nth (rs.drop (4 * k)) 1 = v1 at hc1 b1 HFI
      generalize hv2 : nth (rs.drop (4 * k)) 2 = v2 at hc2 b2 HFI
      generalize hv3 : nth (rs.drop (4 * k)) 3 = v3 at hc3 b3 HFI
      have HV : Hid (insAt rs 0 (k + 1) = insAt rs 0 k ++ [(v0, v1 * 256 + v2, v3)]) := Lib.hid (by
        rw [Int.mul_comm v1 256, insAt_succ, ← hv0, ← hv1, ← hv2, ← hv3, nth_drop, nth_drop, nth_drop, nth_drop]
        simp only [Nat.zero_add, Nat.add_zero])
      clear hoc hj hcell hv0 hv1 hv2 hv3
      obtain ⟨b00, b01⟩ := b0
      obtain ⟨b10, b11⟩ := b1
      obtain ⟨b20, b21⟩ := b2
      obtain ⟨b30, b31⟩ := b3
      gi_wp2
      gi_region
      gi_wp2
      obtain ⟨fn, tmps, assign, body, hy, hR⟩ := HY.out (insAt rs 0 k) (v0, v1 * 256 + v2, v3) wr.drew.drew (HJ.out _ _ _ HJS.out (Below.refl wr.heap.size wr).drew.drew) HFI.out (by rw [insAt_len]; omega)
      dsimp only [encI] at hy
      have hw0 : IntKind.i64.wrap v0 = v0 := by rw [IntKind.wrap_i64]; omega
      have hw3 : IntKind.i64.wrap v3 = v3 := by rw [IntKind.wrap_i64]; omega
      gi_region_with ((refine hR.mono ?_; rintro e W3 ⟨rfl, hJ3, hk3⟩))
      all_goals
        have HOS := Lib.hid ((HOC.out.below ((Below.refl wr.heap.size wr).drew.drew.mono HBW.out)).below hk3)
        have HJ4 : Hid (J (insAt rs 0 (k + 1)) W3) := Lib.hid (by rw [HV.out]; exact hJ3)
        have HS3 : Hid (B ≤ W3.heap.size) := Lib.hid (Nat.le_trans HBW.out hk3.size)
        clear hk3 hJ3
        gi_wp2
        refine ⟨⟨k + 1, _, _, _, rfl, by omega, HS3.out, ?_, HJ4.out⟩, by simp only [lenV]; omega⟩
        have := HOS.out.step (k := 4) h4
        rw [List.drop_drop] at this
        exact this
    · clear hoc hj
      gi_wp2
      go_end0
      exact ⟨⟨_, rfl⟩, _, insAt_all rs hk (by omega), HJS.out⟩

end Go.Proofs.Ytcbgmhbmdklbfaa

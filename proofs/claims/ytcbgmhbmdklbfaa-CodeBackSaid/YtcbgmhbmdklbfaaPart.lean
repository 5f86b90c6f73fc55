/-
  The contract of part of layer 4: an instruction's text.
-/
import Derived.Test.YtcbgmhbmdklbfaaText
import Derived.Test.YtcbgmhbmdklbfaaRows
import Derived.Deep.OwnRows
import Derived.RegionTactic
import Derived.BigRegion
namespace Go.Proofs.Ytcbgmhbmdklbfaa
open Go.RowKit

theorem Try.octetInfo : (Try.prog.info? 5).map (fun i => (i.zero, i.size, i.bytes)) = some (some (.int .u8 0), 1, 1) := by kernel_rfl

theorem make4 (W : World) : (Instr.makeSlice 35 (.int .i64 4) (.int .i64 4)).run Try.prog W = .ok (.slice (some ⟨W.heap.size, 0, none⟩) 4 4) (W.alloc (.cells #[.int .u8 0, .int .u8 0, .int .u8 0, .int .u8 0] 5)) := by
  have h := run_make_row' (P := Try.prog) 35 5 (.int .u8 0) 1 Try.underlying35 Try.octetInfo rfl .i64 .i64 4 (by omega) (by omega) W
  have e : madeCells #[Value.int .u8 0] 4 = #[.int .u8 0, .int .u8 0, .int .u8 0, .int .u8 0] := by
    apply Array.ext'
    rw [toList_madeCells_one]
    rfl
  rw [e] at h
  exact h

/-- Octets are handed back, in memory of the call's own. -/
def NewO (bs : List Int) (w : World) (e : Ending) (w' : World) : Prop :=
  ∃ A c, e = .returned (.slice A bs.length c) ∧ OwnO 5 w' w.heap.size A c bs ∧ Below w.heap.size w w'

theorem part_lies (w : World) (X : Obj) {p q r s : Int} (hp : Oct p) (hq : Oct q) (hr : Oct r) (hs : Oct s) :
    NewO [p, q, r, s] w (.returned (.slice (some ⟨w.heap.size + 1, 0, none⟩) 4 4)) ((w.alloc X).alloc (.cells #[.int .u8 p, .int .u8 q, .int .u8 r, .int .u8 s] 5)).drew := by
  refine ⟨_, _, rfl, ⟨by simp, by simp [hp, hq, hr, hs], ?_⟩, (((Below.refl _ w).alloc (Nat.le_refl _) X).alloc (by simp) _).drew⟩
  have h := World.ownsRow_lit (base := w.heap.size) (e := 5) (size := 1) (w.alloc X) #[.int .u8 p, .int .u8 q, .int .u8 r, .int .u8 s] 4 (by simp) (by unfold maxLen; omega) rfl
  rw [size_alloc] at h
  exact h

set_option maxHeartbeats 2000000 in
theorem part_any (o a b : Int) (w : World) (h : mayB (o, a, b) = true) :
    Calls Try.prog 37 #[.agg #[.int .i64 o, .int .i64 a, .int .i64 b]] w (NewO (txtI (o, a, b)) w) := by
  have hb := may_bound h
  obtain ⟨h1, h2, h3, h4, h5, h6, _⟩ := hb
  simp only [] at h1 h2 h3 h4 h5 h6
  have hmk := make4
  have h1' : Oct o := by unfold Oct; omega
  have h2' : Oct (a / 256) := by unfold Oct; omega
  have h3' : Oct (a % 256) := by unfold Oct; omega
  have h4' : Oct b := by unfold Oct; omega
  clear h
  go_enter Try.func37, Try.ntmps37
  go_wp2
  go_region
  go_wp2
  go_ret
  exact part_lies w _ h1' h2' h3' h4'

end Go.Proofs.Ytcbgmhbmdklbfaa

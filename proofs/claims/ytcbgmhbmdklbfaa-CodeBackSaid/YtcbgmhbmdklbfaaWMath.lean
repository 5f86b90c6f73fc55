/-
  What the loops of Write have written so far: plain mathematics.
-/
import Derived.Test.YtcbgmhbmdklbfaaText
namespace Go.Proofs.Ytcbgmhbmdklbfaa
open Go.RowKit

def wpre (l : List (List I3)) (k : Nat) : List Int := (l.length : Int) :: (l.take k).flatMap txtP
def wpre2 (l : List (List I3)) (k : Nat) (p : List I3) (j : Nat) : List Int := wpre l k ++ (p.length : Int) :: (p.take j).flatMap txtI

theorem wpre_zero (l : List (List I3)) : wpre l 0 = [(l.length : Int)] := by simp [wpre]
theorem wpre_all (l : List (List I3)) : wpre l l.length = txtL l := by simp [wpre, txtL]
theorem wpre2_zero (l : List (List I3)) (k : Nat) (p : List I3) : wpre l k ++ [(p.length : Int)] = wpre2 l k p 0 := by simp [wpre2]
theorem take_next3 {p : List I3} {j : Nat} (h : j < p.length) : p.take (j + 1) = p.take j ++ [ith p j] := by
  rw [List.take_succ_eq_append_getElem h, ith_get h]
theorem take_nextP {l : List (List I3)} {j : Nat} (h : j < l.length) : l.take (j + 1) = l.take j ++ [pth l j] := by
  rw [List.take_succ_eq_append_getElem h, pth_get h]
theorem wpre2_succ (l : List (List I3)) (k : Nat) {p : List I3} {j : Nat} (h : j < p.length) : wpre2 l k p j ++ txtI (ith p j) = wpre2 l k p (j + 1) := by
  unfold wpre2
  rw [take_next3 h, List.flatMap_append, List.append_assoc]
  simp
theorem wpre2_all (l : List (List I3)) {k : Nat} (h : k < l.length) : wpre2 l k (pth l k) (pth l k).length = wpre l (k + 1) := by
  unfold wpre2 wpre
  rw [take_nextP h, List.flatMap_append, List.take_length]
  simp [txtP]
theorem wpre_len {l : List (List I3)} (h : okL l) (k : Nat) : (wpre l k).length ≤ 2065 := by
  unfold wpre
  rw [List.length_cons]
  have h1 := txtPs_len (l := l.take k) (fun p hp => okL_mem h p (List.mem_of_mem_take hp))
  have h2 : (l.take k).length ≤ 16 := by have := h.2.1; rw [List.length_take]; omega
  omega
theorem wpre2_len {l : List (List I3)} (h : okL l) (k : Nat) {p : List I3} (hp : okP p) (j : Nat) : (wpre2 l k p j).length ≤ 2200 := by
  unfold wpre2
  rw [List.length_append, List.length_cons, txtIs_len, List.length_take]
  have h1 := wpre_len h k
  have h2 := hp.2.1
  omega

theorem octs_of {w : World} {g : Nat} {t : TypeId} {zs : List Int} {n : Nat} (h : Bk w g t (zs.map (Value.int .u8)).toArray) (hn : zs.length = n) (hl : n ≤ 140737488351232) (ho : ∀ z ∈ zs, Oct z) : Octs w (some ⟨g, 0, none⟩) n zs := by
  refine ⟨hn, hl, ho, fun _ => ⟨g, 0, rfl, h.lt, fun j hj => ?_⟩⟩
  have hj' : j < zs.length := by omega
  rw [Nat.zero_add, h.cell, nth_get hj']
  simp [hj']

theorem Bk.atg {w : World} {g : Nat} (hg : g = w.heap.size) (t : TypeId) (cs : Array Value) : Bk (w.alloc (.cells cs t)) g t cs := hg ▸ Bk.new w t cs

/-- A row that was just written out is the call's own. -/
theorem own_octs {E : TypeId} {w : World} {base : Nat} (hb : base ≤ w.heap.size) {z : Int} (hz : Oct z) : OwnO E (w.alloc (.cells #[.int .u8 z] E)) base (some ⟨w.heap.size, 0, none⟩) 1 [z] := by
  refine ⟨by simp, by simp [hz], ?_⟩
  have h := World.ownsRow_lit (base := base) (e := E) (size := 1) w #[.int .u8 z] 1 hb (by unfold maxLen; omega) rfl
  simpa using h

end Go.Proofs.Ytcbgmhbmdklbfaa

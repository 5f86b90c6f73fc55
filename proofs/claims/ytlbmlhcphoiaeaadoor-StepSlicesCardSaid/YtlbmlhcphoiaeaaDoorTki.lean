/-
  Layer 12: what a trace's beginnings, and one more state behind it, come to.
-/
import Derived.Test.YtlbmlhcphoiaeaaDoorTkh
import Derived.Test.YtlbmlhcphoiaeaaDoorApp
namespace Go.Proofs.YtlbmlhcphoiaeaaDoor
open Go.RowKit

theorem infoIn : (Tryd.prog.info? 3).map (fun i => (i.zero, i.size, i.bytes)) = some (some (.int .i64 0), 1, 8) := by kernel_rfl

section
variable {l : List Int} {k i m : Nat} {x : Int}
theorem nth_take_ (h : i < k) : nth (l.take k) i = nth l i := by simp [nth, List.getD, h]
theorem nth_snoc_ (h : i < l.length) : nth (l ++ [x]) i = nth l i := by simp [nth, List.getD, List.getElem?_append_left h]
theorem nth_snoc_last : nth (l ++ [x]) l.length = x := by simp [nth, List.getD]
theorem allB_take (h : allB l = true) (k : Nat) : allB (l.take k) = true := allB_iff.2 fun i hi => by
  rw [List.length_take] at hi
  rw [nth_take_ (by omega)]
  exact allB_iff.1 h i (by omega)
theorem allB_snoc (h : allB l = true) (hx : stB x = true) : allB (l ++ [x]) = true := allB_iff.2 fun i hi => by
  rw [List.length_append] at hi
  by_cases e : i < l.length
  · rw [nth_snoc_ e]; exact allB_iff.1 h i e
  · obtain rfl : i = l.length := by simp at hi; omega
    rw [nth_snoc_last]; exact hx
theorem Ints.take_ {w : World} {A : Option Addr} {n : Nat} (h : Ints w A n l) (hk : k ≤ n) : Ints w A k (l.take k) :=
  ⟨by rw [List.length_take]; have := h.1; omega, by have := h.2.1; omega, fun z hz => h.2.2.1 z (List.mem_of_mem_take hz), fun hn => by
    obtain ⟨b, o, e, hb, hc⟩ := h.2.2.2 (by omega)
    exact ⟨b, o, e, hb, fun j hj => by rw [nth_take_ hj]; exact hc j (by omega)⟩⟩
/-- All are states: how far they are a trace. -/
theorem trace_all (h0 : 0 < l.length) (hA : allB l = true) : ∃ y : Nat, traceR l = ((y : Int), 0) ∧ y ≤ l.length ∧ ((y = 0 ∧ nth l 0 ≠ 1) ∨ (nth l 0 = 1 ∧ IsAt l y)) := by
  by_cases h1 : nth l 0 = 1
  · exact ⟨chnF l, traceR_3 (by omega) hA h1 (chn_at h0), (chn_at h0).2.1, .inr ⟨h1, chn_at h0⟩⟩
  · exact ⟨0, traceR_2 (by omega) hA h1, by omega, .inl ⟨rfl, h1⟩⟩
theorem trace_take {y : Nat} (hA : allB l = true) (hy : (y = 0 ∧ nth l 0 ≠ 1) ∨ (nth l 0 = 1 ∧ IsAt l y)) (h1 : 1 ≤ k) (h2 : k ≤ l.length) : traceR (l.take k) = (((min y k : Nat) : Int), 0) := by
  have hl : (l.take k).length = k := by rw [List.length_take]; omega
  rcases hy with ⟨rfl, hn⟩ | ⟨h, hi⟩
  · rw [traceR_2 (by omega) (allB_take hA k) (by rw [nth_take_ (by omega)]; exact hn), Nat.zero_min]; rfl
  · refine traceR_3 (by omega) (allB_take hA k) (by rw [nth_take_ (by omega)]; exact h) ⟨?_, ?_, fun i q => ?_, fun q => ?_⟩
    · have := hi.1; omega
    · omega
    · rw [nth_take_ (by omega), nth_take_ (by omega)]; exact hi.2.2.1 i (by omega)
    · rw [hl] at q
      have e : min y k = y := by omega
      rw [e] at q ⊢
      rw [nth_take_ (by omega), nth_take_ (by omega)]
      exact hi.2.2.2 (by omega)
theorem trace_no (hx : stB x = false) : traceR (l ++ [x]) = (0, 1) :=
  traceR_1 (by simp) (allB_no (i := l.length) (by simp) (by rw [nth_snoc_last]; exact hx))
theorem trace_short {y : Nat} (hA : allB l = true) (h0 : 0 < l.length) (hy : (y = 0 ∧ nth l 0 ≠ 1) ∨ (nth l 0 = 1 ∧ IsAt l y)) (hx : stB x = true) (h : y < l.length) : traceR (l ++ [x]) = ((y : Int), 0) := by
  have hl : (l ++ [x]).length = l.length + 1 := by simp
  rcases hy with ⟨rfl, hn⟩ | ⟨h1, hi⟩
  · exact traceR_2 (by omega) (allB_snoc hA hx) (by rw [nth_snoc_ h0]; exact hn)
  · refine traceR_3 (by omega) (allB_snoc hA hx) (by rw [nth_snoc_ h0]; exact h1) ⟨hi.1, by omega, fun i q => ?_, fun q => ?_⟩
    · rw [nth_snoc_ (by omega), nth_snoc_ (by omega)]; exact hi.2.2.1 i q
    · rw [nth_snoc_ (by omega), nth_snoc_ h]; exact hi.2.2.2 h
theorem trace_full (hA : allB l = true) (h0 : 0 < l.length) (hi : nth l 0 = 1 ∧ IsAt l l.length) (hx : stB x = true) :
    traceR (l ++ [x]) = (((if legB (nth l (l.length - 1)) x = true then l.length + 1 else l.length : Nat) : Int), 0) := by
  have hl : (l ++ [x]).length = l.length + 1 := by simp
  obtain ⟨h1, hi⟩ := hi
  refine traceR_3 (by omega) (allB_snoc hA hx) (by rw [nth_snoc_ h0]; exact h1) ?_
  by_cases hb : legB (nth l (l.length - 1)) x = true
  · rw [if_pos hb]
    refine ⟨by omega, by omega, fun i q => ?_, fun q => by omega⟩
    by_cases e : i + 1 < l.length
    · rw [nth_snoc_ (by omega), nth_snoc_ e]; exact hi.2.2.1 i e
    · obtain rfl : i = l.length - 1 := by omega
      rw [nth_snoc_ (by omega), show l.length - 1 + 1 = l.length by omega, nth_snoc_last]; exact hb
  · rw [if_neg hb]
    refine ⟨by omega, by omega, fun i q => ?_, fun q => ?_⟩
    · rw [nth_snoc_ (by omega), nth_snoc_ q]; exact hi.2.2.1 i q
    · rw [nth_snoc_ (by omega), nth_snoc_last]; simpa using hb
end

end Go.Proofs.YtlbmlhcphoiaeaaDoor

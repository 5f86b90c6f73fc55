/-
  The document's answer of layer 2, numbers of a sign and sixteen parts: the contracts of told, Neg and Add.
-/
import Derived.Test.YtaaffpeppdinhaaBigB
import Derived.Deep.MidRow
namespace Go.Proofs.Ytaaffpeppdinhaa
open Go.RowKit

theorem size16 : (Try.prog.info? 42).map (·.size) = some 16 := by kernel_rfl

/-- The parts of a number are read out of its block. -/
theorem wpl_parts {ops : Array Oper} {rest : List Oper} {o : Oper} {a : Act} {w : World} {Q : Exit → Act → World → Prop} (hgd : o.guard = none) (x : Operand) (ho : o.op = .load 42 x)
    (g : Nat) (hx : a.eval x = .pointer (some ⟨g, 1, none⟩)) {c : Array Value} {m : Bool} {L : List Int} (hk : Bk w g 44 c) (hc : BigC c m L) (h : wpList Try.prog ops Q rest (a.put o.dst (.agg (L.map (Value.int .u64)).toArray)) w) : wpList Try.prog ops Q (o :: rest) a w :=
  wpList_load_mid hgd 42 x ho g 1 hx (L.map (Value.int .u64)) _ (fun j v hv => by
    have hj : j < L.length := by simpa using (List.getElem?_eq_some_iff.1 hv).1
    rw [hk.cell, hc.part (by have := hc.2; omega), nth_get hj]
    simpa [List.getElem?_eq_getElem hj] using hv) Try.underlying42 rfl (by rw [List.length_map, hc.2]; exact size16) h

theorem told_any (c : Array Value) (z : Int) (w : World) (hc : Big c z) : Calls Try.prog 27 #[.agg c] w (RetB (.tuple #[.int .i64 (tz z), .int .i64 (te z)]) w) := by
  obtain ⟨m, L, hb, hd⟩ := id hc
  have hs := hb.size
  have HC := Lib.hid hc
  have k1 := Bk.new w 44 c
  clear hc hb hd
  go_enter Try.func27, Try.ntmps27
  by_cases hf : Fit z
  · have e1 : tz z = z := if_pos hf
    have e2 : te z = 0 := if_pos hf
    rw [e1, e2]
    clear e1 e2
    have HF := Lib.hid hf
    clear hf
    go_wp2_with (first | (refine wpl_load rfl (.tmp 1) rfl _ rfl k1 hs ?_) | (go_at_call 40; refine (int_any c z _ HC.out).mono ?_; rintro e w1 ⟨⟨v, rfl, hv⟩, hb1⟩; rw [decide_eq_true HF.out, hv HF.out]; have HB1 := Lib.hid hb1; clear hb1 hv))
    go_ret2
    exact RetB.of rfl (below3 (below_alloc (Below.refl _ _) _) HB1.out (by simp))
  · have e1 : tz z = 0 := if_neg hf
    have e2 : te z = 4 := if_neg hf
    rw [e1, e2]
    clear e1 e2
    have HF := Lib.hid hf
    clear hf
    go_wp2_with (first | (refine wpl_load rfl (.tmp 1) rfl _ rfl k1 hs ?_) | (go_at_call 40; refine (int_any c z _ HC.out).mono ?_; rintro e w1 ⟨⟨v, rfl, -⟩, hb1⟩; rw [decide_eq_false HF.out]; have HB1 := Lib.hid hb1; clear hb1))
    go_ret2
    exact RetB.of rfl (below3 (below_alloc (Below.refl _ _) _) HB1.out (by simp))

/-- Behind two new blocks: where they lie. -/
theorem lies2 (w : World) (c d : Array Value) (t : TypeId) : Bk ((w.alloc (.cells c t)).alloc (.cells d t)) w.heap.size t c ∧ Bk ((w.alloc (.cells c t)).alloc (.cells d t)) (w.heap.size + 1) t d ∧ Below w.heap.size w ((w.alloc (.cells c t)).alloc (.cells d t)) := by
  refine ⟨(Bk.new w t c).alloc _, ?_, below_alloc (below_alloc (Below.refl _ _) _) _⟩
  have := Bk.new (w.alloc (.cells c t)) t d
  simpa using this
theorem lies3 (w : World) (c d e : Array Value) (t : TypeId) : Bk (((w.alloc (.cells c t)).alloc (.cells d t)).alloc (.cells e t)) w.heap.size t c ∧ Bk (((w.alloc (.cells c t)).alloc (.cells d t)).alloc (.cells e t)) (w.heap.size + 1) t d ∧
    Bk (((w.alloc (.cells c t)).alloc (.cells d t)).alloc (.cells e t)) (w.heap.size + 1 + 1) t e ∧ Below w.heap.size w (((w.alloc (.cells c t)).alloc (.cells d t)).alloc (.cells e t)) := by
  obtain ⟨h1, h2, h3⟩ := lies2 w c d t
  refine ⟨h1.alloc _, h2.alloc _, ?_, below_alloc h3 _⟩
  have := Bk.new ((w.alloc (.cells c t)).alloc (.cells d t)) t e
  simpa using this

theorem zc_size (m : Bool) : (zc m).size = 17 := rfl

theorem neg_any (c : Array Value) (z : Int) (w : World) (hc : Big c z) : Calls Try.prog 31 #[.agg c] w (BigAns (-z) w) := by
  obtain ⟨m, L, hb, hd, hz, hm⟩ := hc
  have hs := hb.size
  have h1 := hb.all
  obtain ⟨k1, k2, bw⟩ := lies2 w c (zc false) 44
  have BW := Lib.hid bw
  have HB := Lib.hid hb
  have HD := Lib.hid hd
  clear hb hd bw
  by_cases h0 : val L = 0
  · have hbig : Big c (-z) := ⟨m, L, HB.out, HD.out, by rw [hz, h0]; simp, hm⟩
    have HG := Lib.hid hbig
    have HV := Lib.hid (decide_eq_true h0)
    clear hbig h0 hz hm
    go_enter Try.func31, Try.ntmps31
    go_wp2_with (first | (refine wpl_load rfl (.tmp 1) rfl _ rfl k1 hs ?_) | fail)
    refine (zero_parts c m L _ HB.out HD.out).mono ?_
    rw [HV.out]
    rintro e w1 ⟨rfl, hb1⟩
    have j1 := k1.below hb1 (by simp <;> omega)
    have j2 := k2.below hb1 (by simp <;> omega)
    have BB := Lib.hid (below3 BW.out hb1 (by simp))
    clear hb1
    go_wp2_with (first | (refine wpl_load rfl (.tmp 1) rfl _ rfl j1 hs ?_) | (refine wpl_store rfl (.tmp 2) (.tmp 10) rfl _ rfl rfl j2 (zc_size false) hs h1 ?_))
    exact ret_big Try.results31 rfl rfl (j2.row c) hs ⟨c, rfl, HG.out, below_row BB.out (by omega) c⟩
  · have hbig : Big (c.setIfInBounds 0 (.bool (!m))) (-z) := ⟨!m, L, HB.out.set_sign _, HD.out, by rw [hz]; cases m <;> simp, fun h => absurd h h0⟩
    have HG := Lib.hid hbig
    have HV := Lib.hid (decide_eq_false h0)
    have c0 := HB.out.sign
    have hs2 := (HB.out.set_sign (!m)).size
    have h2 := (HB.out.set_sign (!m)).all
    clear hbig h0 hz hm
    go_enter Try.func31, Try.ntmps31
    go_wp2_with (first | (refine wpl_load rfl (.tmp 1) rfl _ rfl k1 hs ?_) | fail)
    refine (zero_parts c m L _ HB.out HD.out).mono ?_
    rw [HV.out]
    rintro e w1 ⟨rfl, hb1⟩
    have j1 := k1.below hb1 (by simp <;> omega)
    have j2 := k2.below hb1 (by simp <;> omega)
    have x0 : w1.cell? ⟨w.heap.size, 0, none⟩ = some (.bool m) := (j1.cell 0).trans c0
    have f0 := j1.frozen 0
    have i1 := j1.set_ 0 (.bool (!m))
    have i2 := j2.far (p := ⟨w.heap.size, 0, none⟩) (by simp) (.bool (!m))
    have BB := Lib.hid ((below3 BW.out hb1 (by simp)).setCell (p := ⟨w.heap.size, 0, none⟩) (Nat.le_refl _) (.bool (!m)))
    clear hb1 j1 j2
    go_wp2_with (first | (refine wpl_load rfl (.tmp 1) rfl _ rfl i1 hs2 ?_) | (refine wpl_store rfl (.tmp 2) (.tmp 10) rfl _ rfl rfl i2 (zc_size false) hs2 h2 ?_))
    exact ret_big Try.results31 rfl rfl (i2.row _) hs2 ⟨_, rfl, HG.out, below_row BB.out (by omega) _⟩

end Go.Proofs.Ytaaffpeppdinhaa

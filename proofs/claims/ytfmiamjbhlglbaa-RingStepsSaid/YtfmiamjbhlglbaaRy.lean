/-
  The document's accesses (layer 7), all ways: what the table says.
-/
import Derived.Test.YtfmiamjbhlglbaaRv
import Derived.Test.YtfmiamjbhlglbaaRw
import Derived.Test.YtfmiamjbhlglbaaRx
namespace Go.Proofs.Ytfmiamjbhlglbaa
open Go.RowKit

theorem some_if {α : Type} {P : Prop} [Decidable P] {a b : Option α} (x : α) (h1 : P → a = some x) (h2 : ¬ P → a = b) (hb : b = none) : a = if decide P then some x else none := by
  by_cases h : P
  · rw [h1 h, if_pos (by simpa using h)]
  · rw [h2 h, hb, if_neg (by simpa using h)]
theorem wrap_few {y t : Int} (hy : -1 ≤ y ∧ y ≤ 1099511627776) (ht : -1 ≤ t ∧ t ≤ 1099511627776) : IntKind.i64.wrap (y - t) = y - t := by rw [IntKind.wrap_i64]; omega

theorem rpush_any (c base cap gA B : Nat) (ms : List Int) (p v t b : Int) (wn : Bool) (w : World) (hBw : B ≤ w.heap.size) (hx : OwnI 2 w B (some ⟨gA, 0, none⟩) c ms) (hgA : gA < w.heap.size) (hq : MayQ ms.length base cap) (fv : Fit v) (hm : MayH ⟨1, p, v, t, b, wn, 0⟩) :
    Calls Try.prog 23 #[.slice (some ⟨gA, 0, none⟩) ms.length c, .agg #[.int .i64 base, .int .i64 cap], hv ⟨1, p, v, t, b, wn, 0⟩] w (RetAcc B (accF ms base cap ⟨1, p, v, t, b, wn, 0⟩) w) := by
  have hbig := hq.1
  have hlen : base + 2 + cap ≤ ms.length := by have := hq.2.2.2.2.2; omega
  have hc1 : 1 ≤ cap := by have := hq.2.1; omega
  have hc2 : cap ≤ 1024 := by have := hq.2.2.1; omega
  have hfit := fit_cell hx.ints.2.2.1
  obtain ⟨hp0, hp1, htt, hbb, -, -⟩ := hm
  simp only at hp0 hp1 htt hbb
  obtain ⟨ht0, ht1⟩ := htt
  obtain ⟨hb0, hb1⟩ := hbb
  rw [pcs1] at hp1
  have hp : p = 0 ∨ p = 1 ∨ p = 2 ∨ p = 3 := by omega
  unfold hv
  rcases hp with rfl | rfl | rfl | rfl
  · refine (rpush0 c base cap gA B ms v t b wn (nth ms base) w hBw hx hgA hlen hbig hc1 hc2 rfl (hfit _)).mono fun e w' r => r.acc ?_
    rw [push0]
    exact some_if _ (fun h => if_pos h) (fun h => if_neg h) rfl
  · have ht := And.intro ht0 ht1
    by_cases hf : (cap : Int) ≤ IntKind.i64.wrap (nth ms (base + 1) - t)
    · refine (rpush1f c base cap gA B ms v t b wn (nth ms (base + 1)) w hBw hx hgA hlen hbig hc1 hc2 rfl (hfit _) _ rfl hf).mono fun e w' r => r.acc ?_
      rw [push1]
      refine some_if (b := none) _ (fun h => ?_) (fun h => if_neg h) rfl
      rw [if_pos h]
      rw [wrap_few ⟨by have := h.1; omega, h.2⟩ ⟨ht0, ht1⟩] at hf
      exact if_pos hf
    · refine (rpush1r c base cap gA B ms v t b wn (nth ms (base + 1)) w hBw hx hgA hlen hbig hc1 hc2 rfl (hfit _) _ rfl hf).mono fun e w' r => r.acc ?_
      rw [push1]
      refine some_if (b := none) _ (fun h => ?_) (fun h => if_neg h) rfl
      rw [if_pos h]
      rw [wrap_few ⟨by have := h.1; omega, h.2⟩ ⟨ht0, ht1⟩] at hf
      exact if_neg hf
  · by_cases h : b < 0
    · refine (rpush2n c base cap gA B ms v t b wn w hBw hx hgA hlen hbig hc1 hc2 h).mono fun e w' r => r.acc ?_
      rw [push2, if_pos h]
      rfl
    · refine (rpush2 c base cap gA B ms v t b wn w hBw hx hgA hlen hbig hc1 hc2 (by omega) hb1 fv).mono fun e w' r => r.acc ?_
      rw [push2, if_neg h]
      rfl
  · by_cases h : b < 0
    · refine (rpush3n c base cap gA B ms v t b wn w hBw hx hgA hlen hbig hc1 hc2 h).mono fun e w' r => r.acc ?_
      rw [push3, if_pos h]
      rfl
    · refine (rpush3 c base cap gA B ms v t b wn w hBw hx hgA hlen hbig hc1 hc2 (by omega) hb1 (by rw [IntKind.wrap_i64]; omega) (⟨by omega, by omega⟩)).mono fun e w' r => r.acc ?_
      rw [push3, if_neg h]
      rfl

theorem rpop_any (c base cap gA B : Nat) (ms : List Int) (p v t b : Int) (wn : Bool) (w : World) (hBw : B ≤ w.heap.size) (hx : OwnI 2 w B (some ⟨gA, 0, none⟩) c ms) (hgA : gA < w.heap.size) (hq : MayQ ms.length base cap) (hm : MayH ⟨2, p, v, t, b, wn, 0⟩) :
    Calls Try.prog 24 #[.slice (some ⟨gA, 0, none⟩) ms.length c, .agg #[.int .i64 base, .int .i64 cap], hv ⟨2, p, v, t, b, wn, 0⟩] w (RetAcc B (accF ms base cap ⟨2, p, v, t, b, wn, 0⟩) w) := by
  have hbig := hq.1
  have hlen : base + 2 + cap ≤ ms.length := by have := hq.2.2.2.2.2; omega
  have hc1 : 1 ≤ cap := by have := hq.2.1; omega
  have hc2 : cap ≤ 1024 := by have := hq.2.2.1; omega
  have hfit := fit_cell hx.ints.2.2.1
  obtain ⟨hp0, hp1, htt, hbb, -, -⟩ := hm
  simp only at hp0 hp1 htt hbb
  obtain ⟨ht0, ht1⟩ := htt
  obtain ⟨hb0, hb1⟩ := hbb
  rw [pcs2] at hp1
  have hp : p = 0 ∨ p = 1 ∨ p = 2 ∨ p = 3 ∨ p = 4 ∨ p = 5 ∨ p = 6 := by omega
  unfold hv
  rcases hp with rfl | rfl | rfl | rfl | rfl | rfl | rfl
  · refine (rpop0 c base cap gA B ms v t b wn (nth ms (base + 1)) w hBw hx hgA hlen hbig hc1 hc2 rfl (hfit _)).mono fun e w' r => r.acc ?_
    rw [pop0]
    exact some_if _ (fun h => if_pos h) (fun h => if_neg h) rfl
  · refine (rpop1 c base cap gA B ms v t b wn (b - 1) w hBw hx hgA hlen hbig hc1 hc2 (by rw [IntKind.wrap_i64]; omega) (⟨by omega, by omega⟩)).mono fun e w' r => r.acc ?_
    rw [pop1]
    exact some_if _ (fun h => if_pos h) (fun h => if_neg h) rfl
  · by_cases hf : b < nth ms base
    · refine (rpop2a c base cap gA B ms v t b wn (nth ms base) w hBw hx hgA hlen hbig hc1 hc2 rfl (hfit _) hf).mono fun e w' r => r.acc ?_
      rw [pop2]
      refine some_if (b := none) _ (fun h => ?_) (fun h => if_neg h) rfl
      rw [if_pos h]
      exact if_pos hf
    · refine (rpop2b c base cap gA B ms v t b wn (nth ms base) w hBw hx hgA hlen hbig hc1 hc2 rfl (hfit _) hf).mono fun e w' r => r.acc ?_
      rw [pop2]
      refine some_if (b := none) _ (fun h => ?_) (fun h => if_neg h) rfl
      rw [if_pos h]
      exact if_neg hf
  · by_cases h : t < 0
    · refine (rpop3n c base cap gA B ms v t b wn w hBw hx hgA hlen hbig hc1 hc2 h).mono fun e w' r => r.acc ?_
      rw [pop3, if_pos h]
      rfl
    · refine (rpop3 c base cap gA B ms v t b wn w hBw hx hgA hlen hbig hc1 hc2 (by omega) ht1 (⟨by omega, by omega⟩)).mono fun e w' r => r.acc ?_
      rw [pop3, if_neg h]
      rfl
  · by_cases h : b < 0
    · by_cases ht : t < 0
      · refine (rpop4n c base cap gA B ms v t b wn w hBw hx hgA hlen hbig hc1 hc2 ht h).mono fun e w' r => r.acc ?_
        rw [pop4, if_pos h]
        rfl
      · refine (rpop4p c base cap gA B ms v t b wn w hBw hx hgA hlen hbig hc1 hc2 (by omega) h).mono fun e w' r => r.acc ?_
        rw [pop4, if_pos h]
        rfl
    · by_cases hf : t < b
      · by_cases ht : t < 0
        · refine (rpop4dn c base cap gA B ms v t b wn (nth ms (slI base cap b)) w hBw hx hgA hlen hbig hc1 hc2 rfl ht (by omega) hf).mono fun e w' r => r.acc ?_
          rw [pop4, if_neg h, if_pos hf]
          rfl
        · refine (rpop4dp c base cap gA B ms v t b wn (nth ms (slI base cap b)) w hBw hx hgA hlen hbig hc1 hc2 rfl (by omega) (by omega) hf).mono fun e w' r => r.acc ?_
          rw [pop4, if_neg h, if_pos hf]
          rfl
      · by_cases ht : t < 0
        · exact absurd hf (by omega)
        · refine (rpop4op c base cap gA B ms v t b wn (nth ms (slI base cap b)) w hBw hx hgA hlen hbig hc1 hc2 rfl (by omega) (by omega) hf).mono fun e w' r => r.acc ?_
          rw [pop4, if_neg h, if_neg hf]
          rfl
  · by_cases h : t < 0
    · refine (rpop5n c base cap gA B ms v t b wn w hBw hx hgA hlen hbig hc1 hc2 h).mono fun e w' r => r.acc ?_
      rw [pop5, if_pos h]
      rfl
    · by_cases hy : nth ms base = t
      · refine (rpop5w c base cap gA B ms v t b wn (nth ms base) w hBw hx hgA hlen hbig hc1 hc2 rfl (by simpa using hy) (by omega) ht1 (by rw [IntKind.wrap_i64]; omega) (⟨by omega, by omega⟩)).mono fun e w' r => r.acc ?_
        rw [pop5, if_neg h, if_pos hy]
        rfl
      · refine (rpop5l c base cap gA B ms v t b wn (nth ms base) w hBw hx hgA hlen hbig hc1 hc2 rfl (by simpa using hy) (by omega) ht1).mono fun e w' r => r.acc ?_
        rw [pop5, if_neg h, if_neg hy]
        rfl
  · by_cases h : t < 0
    · refine (rpop6n c base cap gA B ms v t b wn w hBw hx hgA hlen hbig hc1 hc2 h).mono fun e w' r => r.acc ?_
      rw [pop6, if_pos h]
      rfl
    · cases wn with
      | true =>
        refine (rpop6t c base cap gA B ms v t b w hBw hx hgA hlen hbig hc1 hc2 (by omega) ht1 (by rw [IntKind.wrap_i64]; omega) (⟨by omega, by omega⟩)).mono fun e w' r => r.acc ?_
        rw [pop6, if_neg h]
        rfl
      | false =>
        refine (rpop6f c base cap gA B ms v t b w hBw hx hgA hlen hbig hc1 hc2 (by omega) ht1 (by rw [IntKind.wrap_i64]; omega) (⟨by omega, by omega⟩)).mono fun e w' r => r.acc ?_
        rw [pop6, if_neg h]
        rfl

theorem rsteal_any (c base cap gA B : Nat) (ms : List Int) (p v t b : Int) (wn : Bool) (w : World) (hBw : B ≤ w.heap.size) (hx : OwnI 2 w B (some ⟨gA, 0, none⟩) c ms) (hgA : gA < w.heap.size) (hq : MayQ ms.length base cap) (hm : MayH ⟨3, p, v, t, b, wn, 0⟩) :
    Calls Try.prog 25 #[.slice (some ⟨gA, 0, none⟩) ms.length c, .agg #[.int .i64 base, .int .i64 cap], hv ⟨3, p, v, t, b, wn, 0⟩] w (RetAcc B (accF ms base cap ⟨3, p, v, t, b, wn, 0⟩) w) := by
  have hbig := hq.1
  have hlen : base + 2 + cap ≤ ms.length := by have := hq.2.2.2.2.2; omega
  have hc1 : 1 ≤ cap := by have := hq.2.1; omega
  have hc2 : cap ≤ 1024 := by have := hq.2.2.1; omega
  have hfit := fit_cell hx.ints.2.2.1
  obtain ⟨hp0, hp1, htt, hbb, -, -⟩ := hm
  simp only at hp0 hp1 htt hbb
  obtain ⟨ht0, ht1⟩ := htt
  obtain ⟨hb0, hb1⟩ := hbb
  rw [pcs3] at hp1
  have hp : p = 0 ∨ p = 1 ∨ p = 2 ∨ p = 3 := by omega
  unfold hv
  rcases hp with rfl | rfl | rfl | rfl
  · refine (rsteal0 c base cap gA B ms v t b wn (nth ms base) w hBw hx hgA hlen hbig hc1 hc2 rfl (hfit _)).mono fun e w' r => r.acc ?_
    rw [steal0]
    exact some_if _ (fun h => if_pos h) (fun h => if_neg h) rfl
  · have ht := And.intro ht0 ht1
    by_cases hf : IntKind.i64.wrap (nth ms (base + 1) - t) < 1
    · refine (rsteal1e c base cap gA B ms v t b wn (nth ms (base + 1)) w hBw hx hgA hlen hbig hc1 hc2 rfl (hfit _) _ rfl hf).mono fun e w' r => r.acc ?_
      rw [steal1]
      refine some_if (b := none) _ (fun h => ?_) (fun h => if_neg h) rfl
      rw [if_pos h]
      rw [wrap_few ⟨by have := h.1; omega, h.2⟩ ⟨ht0, ht1⟩] at hf
      exact if_pos hf
    · refine (rsteal1o c base cap gA B ms v t b wn (nth ms (base + 1)) w hBw hx hgA hlen hbig hc1 hc2 rfl (hfit _) _ rfl hf).mono fun e w' r => r.acc ?_
      rw [steal1]
      refine some_if (b := none) _ (fun h => ?_) (fun h => if_neg h) rfl
      rw [if_pos h]
      rw [wrap_few ⟨by have := h.1; omega, h.2⟩ ⟨ht0, ht1⟩] at hf
      exact if_neg hf
  · by_cases h : t < 0
    · refine (rsteal2n c base cap gA B ms v t b wn w hBw hx hgA hlen hbig hc1 hc2 h).mono fun e w' r => r.acc ?_
      rw [steal2, if_pos h]
      rfl
    · refine (rsteal2 c base cap gA B ms v t b wn (nth ms (slI base cap t)) w hBw hx hgA hlen hbig hc1 hc2 rfl (by omega)).mono fun e w' r => r.acc ?_
      rw [steal2, if_neg h]
      rfl
  · by_cases h : t < 0
    · refine (rsteal3n c base cap gA B ms v t b wn w hBw hx hgA hlen hbig hc1 hc2 h).mono fun e w' r => r.acc ?_
      rw [steal3, if_pos h]
      rfl
    · by_cases hy : nth ms base = t
      · refine (rsteal3w c base cap gA B ms v t b wn (nth ms base) w hBw hx hgA hlen hbig hc1 hc2 rfl (by simpa using hy) (by simpa using hy) (by omega) ht1 (by rw [IntKind.wrap_i64]; omega) (⟨by omega, by omega⟩)).mono fun e w' r => r.acc ?_
        rw [steal3, if_neg h, if_pos hy]
        rfl
      · refine (rsteal3l c base cap gA B ms v t b wn (nth ms base) w hBw hx hgA hlen hbig hc1 hc2 rfl (by simpa using hy) (by simpa using hy) (by omega) ht1).mono fun e w' r => r.acc ?_
        rw [steal3, if_neg h, if_neg hy]
        rfl

end Go.Proofs.Ytfmiamjbhlglbaa

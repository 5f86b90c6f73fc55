/-
  Layer 17, the program: a tally's mayBe and moved; the closure of stacked.
-/
import Derived.Test.YtmndkofdoclihaaWom
namespace Go.Proofs.Ytmndkofdoclihaa
open Go.RowKit

theorem mayBe_wo (is : List Int) (hf : fours is) (hl : is.length ≤ 64) (w : World) :
    Calls Try.prog 29 #[.agg #[.int .i64 (manyWo is 0 : Int), .int .i64 (manyWo is 1 : Int), .int .i64 (manyWo is 2 : Int), .int .i64 (manyWo is 3 : Int)]] w (RetB (.bool (decide (fitsWo is))) w) := by
  have ha := many_all hf
  have HD : Hid (decide (2 * (manyWo is 1 : Int) ≤ (manyWo is 0 : Int) + (manyWo is 1 : Int) + (manyWo is 2 : Int) + 1) = decide (fitsWo is)) := Lib.hid (decide_eq_decide.2 (by unfold fitsWo; omega))
  obtain ⟨c0, h0⟩ : ∃ c : Int, (manyWo is 0 : Int) = c := ⟨_, rfl⟩
  obtain ⟨c1, h1⟩ : ∃ c : Int, (manyWo is 1 : Int) = c := ⟨_, rfl⟩
  obtain ⟨c2, h2⟩ : ∃ c : Int, (manyWo is 2 : Int) = c := ⟨_, rfl⟩
  obtain ⟨c3, h3⟩ : ∃ c : Int, (manyWo is 3 : Int) = c := ⟨_, rfl⟩
  have e1 : IntKind.i64.wrap (c0 + c1) = c0 + c1 := by rw [IntKind.wrap_i64]; omega
  have e2 : IntKind.i64.wrap (c0 + c1 + c2) = c0 + c1 + c2 := by rw [IntKind.wrap_i64]; omega
  have e3 : IntKind.i64.wrap (2 * c1) = 2 * c1 := by rw [IntKind.wrap_i64]; omega
  have e4 : IntKind.i64.wrap (c0 + c1 + c2 + 1) = c0 + c1 + c2 + 1 := by rw [IntKind.wrap_i64]; omega
  rw [h0, h1, h2] at HD
  rw [h0, h1, h2, h3]
  clear ha hf hl h0 h1 h2 h3
  obtain ⟨b, hb⟩ : ∃ b, decide (fitsWo is) = b := ⟨_, rfl⟩
  rw [hb] at HD ⊢
  clear hb
  obtain ⟨kb, bb⟩ := lay1 w #[.int .i64 c0, .int .i64 c1, .int .i64 c2, .int .i64 c3] 46
  obtain ⟨q0, q1, q2, q3⟩ := kb.c4w
  have lq := kb.lt
  have BB := Lib.hid bb
  clear kb bb
  go_enter Try.func29, Try.ntmps29
  go_wp2_with fail
  go_ret
  exact ⟨by simp; exact HD.out, BB.out⟩

set_option maxHeartbeats 1000000 in
theorem moved_wo (is : List Int) (k f t : Nat) (hk : k < is.length) (hf : f < 4) (ht : t < 4) (he : nth is k = (f : Int)) (hl : is.length ≤ 64) (w : World) :
    Calls Try.prog 46 #[.agg #[.int .i64 (manyWo is 0 : Int), .int .i64 (manyWo is 1 : Int), .int .i64 (manyWo is 2 : Int), .int .i64 (manyWo is 3 : Int)], .int .i64 (f : Int), .int .i64 (t : Int)] w
      (RetB (.agg #[.int .i64 (manyWo (is.set k (t : Int)) 0 : Int), .int .i64 (manyWo (is.set k (t : Int)) 1 : Int), .int .i64 (manyWo (is.set k (t : Int)) 2 : Int), .int .i64 (manyWo (is.set k (t : Int)) 3 : Int)]) w) := by
  have hm := tal_moved hk hf ht he
  have hx0 : nth (talW is) f = (manyWo is (f : Int) : Int) := talW_at is hf
  have hx1 := many_le is (f : Int)
  have hy0 : 0 ≤ nth ((talW is).set f (nth (talW is) f - 1)) t + 1 ∧ nth ((talW is).set f (nth (talW is) f - 1)) t ≤ 64 := by
    rw [nth_set _ _ _ _ ht, talW_at is ht, hx0]
    have := many_le is (t : Int)
    split <;> omega
  obtain ⟨x, hx⟩ : ∃ x, nth (talW is) f = x := ⟨_, rfl⟩
  rw [hx] at hm hx0 hy0
  obtain ⟨y, hy⟩ : ∃ y, nth ((talW is).set f (x - 1)) t = y := ⟨_, rfl⟩
  rw [hy] at hm hy0
  have e1 : IntKind.i64.wrap (x - 1) = x - 1 := by rw [IntKind.wrap_i64]; omega
  have e2 : IntKind.i64.wrap (y + 1) = y + 1 := by rw [IntKind.wrap_i64]; omega
  obtain ⟨k0, k1, bb⟩ := lies2 w #[.int .i64 (manyWo is 0 : Int), .int .i64 (manyWo is 1 : Int), .int .i64 (manyWo is 2 : Int), .int .i64 (manyWo is 3 : Int)] #[.int .i64 0, .int .i64 0, .int .i64 0, .int .i64 0] 46 46
  obtain ⟨V, hV⟩ : ∃ V, (w.alloc (.cells #[.int .i64 (manyWo is 0 : Int), .int .i64 (manyWo is 1 : Int), .int .i64 (manyWo is 2 : Int), .int .i64 (manyWo is 3 : Int)] 46)).alloc (.cells #[.int .i64 0, .int .i64 0, .int .i64 0, .int .i64 0] 46) = V := ⟨_, rfl⟩
  rw [hV] at k0 k1 bb
  have HV := Lib.hid hV
  clear hV
  have j0 : BkI V w.heap.size 46 (talW is) := k0
  have q0 := j0.at_ (k := f) hf
  rw [hx] at q0
  have f0 := j0.frozen f
  have l0 := j0.lt
  have j1 := j0.set_ f (x - 1)
  have k2 := k1.far (p := ⟨w.heap.size, f, none⟩) (by simp) (.int .i64 (x - 1))
  have b1 := bb.setCell (p := ⟨w.heap.size, f, none⟩) (Nat.le_refl _) (.int .i64 (x - 1))
  obtain ⟨V1, hV1⟩ : ∃ V1, V.setCell ⟨w.heap.size, f, none⟩ (.int .i64 (x - 1)) = V1 := ⟨_, rfl⟩
  rw [hV1] at j1 k2 b1
  have HV1 := Lib.hid hV1
  clear hV1
  have q1 := j1.at_ (k := t) (by simpa [talW] using ht)
  rw [hy] at q1
  have f1 := j1.frozen t
  have l1 := j1.lt
  have j2 := j1.set_ t (y + 1)
  have k3 := k2.far (p := ⟨w.heap.size, t, none⟩) (by simp) (.int .i64 (y + 1))
  have b2 := b1.setCell (p := ⟨w.heap.size, t, none⟩) (Nat.le_refl _) (.int .i64 (y + 1))
  obtain ⟨V2, hV2⟩ : ∃ V2, V1.setCell ⟨w.heap.size, t, none⟩ (.int .i64 (y + 1)) = V2 := ⟨_, rfl⟩
  rw [hV2] at j2 k3 b2
  have HV2 := Lib.hid hV2
  clear hV2
  rw [hm] at j2
  have j3 : Bk V2 w.heap.size 46 #[.int .i64 (manyWo (is.set k (t : Int)) 0 : Int), .int .i64 (manyWo (is.set k (t : Int)) 1 : Int), .int .i64 (manyWo (is.set k (t : Int)) 2 : Int), .int .i64 (manyWo (is.set k (t : Int)) 3 : Int)] := j2
  clear hm hx0 hx1 hy0 hx hy he hk hl j0 j1 j2 k0 k1 k2 bb b1
  obtain ⟨z0, h0⟩ : ∃ c : Int, (manyWo (is.set k (t : Int)) 0 : Int) = c := ⟨_, rfl⟩
  obtain ⟨z1, h1⟩ : ∃ c : Int, (manyWo (is.set k (t : Int)) 1 : Int) = c := ⟨_, rfl⟩
  obtain ⟨z2, h2⟩ : ∃ c : Int, (manyWo (is.set k (t : Int)) 2 : Int) = c := ⟨_, rfl⟩
  obtain ⟨z3, h3⟩ : ∃ c : Int, (manyWo (is.set k (t : Int)) 3 : Int) = c := ⟨_, rfl⟩
  rw [h0, h1, h2, h3] at j3 ⊢
  clear h0 h1 h2 h3
  have J3 := Lib.hid j3
  have K3 := Lib.hid k3
  have B2 := Lib.hid b2
  clear j3 k3 b2
  go_enter Try.func46, Try.ntmps46
  go_upto_region 1 with fail
  rw [HV.out]
  clear HV
  go_upto_region 2 with fail
  rw [HV1.out]
  clear HV1 q0 f0 l0
  go_upto_region 3 with fail
  rw [HV2.out]
  clear HV2 q1 f1 l1
  obtain ⟨p0, p1, p2, p3⟩ := J3.out.c4w
  obtain ⟨r0, r1, r2, r3⟩ := K3.out.c4w
  obtain ⟨s0, s1, s2, s3⟩ := K3.out.f4w
  have lp := J3.out.lt
  have lr := K3.out.lt
  have hs := Lib.hid (bk_set4w K3.out (.int .i64 z0) (.int .i64 z1) (.int .i64 z2) (.int .i64 z3))
  have hB := Lib.hid (below_set4w (g := w.heap.size + 1) B2.out (by omega) (.int .i64 z0) (.int .i64 z1) (.int .i64 z2) (.int .i64 z3))
  go_wp2_with fail
  obtain ⟨u0, u1, u2, u3⟩ := hs.out.c4w
  unfold set4w at u0 u1 u2 u3 hB
  exact bodyPost_ret (v := .agg #[.int .i64 z0, .int .i64 z1, .int .i64 z2, .int .i64 z3]) (by simp [results, Try.results46, go_sem, u0, u1, u2, u3]) rfl ⟨rfl, hB.out⟩

end Go.Proofs.Ytmndkofdoclihaa

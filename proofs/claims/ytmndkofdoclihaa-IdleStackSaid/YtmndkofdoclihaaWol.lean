/-
  Layer 17: live.
-/
import Derived.Test.YtmndkofdoclihaaWoh
import Derived.Test.YtmndkofdoclihaaWoi
namespace Go.Proofs.Ytmndkofdoclihaa
open Go.RowKit

theorem OwnW.apart2 {T : TypeId} {w : World} {base g : Nat} {A B : Option Addr} {a b : Nat} {is st : List Int} {c0 c1 : Value} (h : OwnW w base A a B b is st) (hk : Bk w g T #[c0, c1]) (hT : 3 ≠ T) (v0 v1 : Value) : OwnW (set2w w g v0 v1) base A a B b is st :=
  (h.apart hk hT v0).apart (hk.set_ 0 v0) hT v1
theorem newW_of {n : Int} {i0 s0 : List Int} {e : Int} (h : newWo n = (i0, e)) (hs : [] = s0) : NewW (newWo n) = ErrW (i0, s0, e) := by subst hs; rw [h]; rfl

set_option maxHeartbeats 4000000 in
theorem live_wo (w : World) :
    Calls Try.prog 7 #[] w (RetB (.bool true) w) := by
  obtain ⟨i0, h0⟩ : ∃ l : List Int, [0, 0] = l := ⟨_, rfl⟩
  obtain ⟨i1, h1⟩ : ∃ l : List Int, [1, 0] = l := ⟨_, rfl⟩
  obtain ⟨s0, hs⟩ : ∃ l : List Int, [] = l := ⟨_, rfl⟩
  have HN := Lib.hid (newW_of (n := 2) (i0 := i0) (e := 0) (by subst h0; decide) hs)
  have H1 : Hid (spinWo i0 s0 0 = (true, i1, s0, 0)) := Lib.hid (by subst h0 h1 hs; decide)
  have H2 : Hid (spinWo i1 s0 1 = (false, i1, s0, 0)) := Lib.hid (by subst h1 hs; decide)
  have H3 : Hid (chkWo i1 s0 = 0) := Lib.hid (by subst h1 hs; decide)
  clear h0 h1 hs
  have BB := Lib.hid (Below.refl w.heap.size w)
  go_enter Try.func7, Try.ntmps7
  go_wp2_with fail
  refine (new_wo 2 _).mono ?_
  rw [HN.out]
  try dsimp only
  rintro e U1 ⟨An, an, Bn, bn, he, ow, bU1⟩
  try dsimp only at he ow
  subst he
  have HBBn : Hid (w.heap.size ≤ w.heap.size) := Lib.hid BB.out.size
  have HSZn : Hid (w.heap.size ≤ U1.heap.size) := Lib.hid bU1.size
  have Rn := Lib.hid ow
  clear ow
  replace BB := Lib.hid (below3 BB.out bU1)
  clear bU1
  have kt := Bk.new U1 24 #[.slice An i0.length an, .slice Bn s0.length bn]
  have ba := (Below.refl U1.heap.size U1).alloc (Nat.le_refl _) (.cells #[.slice An i0.length an, .slice Bn s0.length bn] 24)
  have hgb := BB.out.size
  replace Rn := Lib.hid (Rn.out.below ba)
  replace BB := Lib.hid (below3 BB.out ba)
  clear ba
  obtain ⟨W2, hW⟩ : ∃ W, U1.alloc (.cells #[.slice An i0.length an, .slice Bn s0.length bn] 24) = W := ⟨_, rfl⟩
  obtain ⟨gT, hg⟩ : ∃ g, U1.heap.size = g := ⟨_, rfl⟩
  rw [hW] at kt BB Rn
  rw [hg] at kt hgb HSZn
  have HW := Lib.hid hW
  have HG := Lib.hid hg
  have KT := Lib.hid kt
  have HBT := Lib.hid hgb
  clear hW hg kt hgb
  go_upto_region 2 with fail
  rw [HW.out]
  try rw [HG.out]
  clear HW HG
  obtain ⟨qT_0, qT_1⟩ := KT.out.c2w
  have lT := KT.out.lt
  obtain ⟨fT_0, fT_1⟩ := KT.out.f2w
  go_wp2_with fail
  refine (spin_wo An Bn i0.length an s0.length bn i0 s0 0 _ Rn.out.i.ints Rn.out.s.ints).mono ?_
  rw [H1.out]
  try dsimp only
  rintro e U3 ⟨Ap, ap, Bp, bp, he, ow, bU3⟩
  try dsimp only at he ow
  subst he
  clear qT_0 qT_1 lT fT_0 fT_1
  have LT_p : Hid (gT < W2.heap.size) := Lib.hid KT.out.lt
  have HBBp : Hid (w.heap.size ≤ W2.heap.size) := Lib.hid BB.out.size
  have HSZp : Hid (W2.heap.size ≤ U3.heap.size) := Lib.hid bU3.size
  have Rp := Lib.hid ow
  clear ow
  replace KT := Lib.hid (KT.out.below bU3 KT.out.lt)
  replace Rn := Lib.hid (Rn.out.below bU3)
  replace BB := Lib.hid (below3 BB.out bU3)
  clear bU3
  obtain ⟨qT_0, qT_1⟩ := KT.out.c2w
  have lT := KT.out.lt
  obtain ⟨fT_0, fT_1⟩ := KT.out.f2w
  have x0 := bk_set2w KT.out (.slice Ap i1.length ap) (.slice Bp s0.length bp)
  have xb := below_set2w (g := gT) BB.out HBT.out (.slice Ap i1.length ap) (.slice Bp s0.length bp)
  have yn := Rn.out.apart2 KT.out (by decide) (.slice Ap i1.length ap) (.slice Bp s0.length bp)
  have yp := Rp.out.apart2 KT.out (by decide) (.slice Ap i1.length ap) (.slice Bp s0.length bp)
  obtain ⟨X3, hX⟩ : ∃ X, set2w U3 gT (.slice Ap i1.length ap) (.slice Bp s0.length bp) = X := ⟨_, rfl⟩
  rw [hX] at x0 xb yn yp
  unfold set2w at hX
  have HX := Lib.hid hX
  replace KT := Lib.hid x0
  replace BB := Lib.hid xb
  replace Rn := Lib.hid yn
  replace Rp := Lib.hid yp
  clear hX x0 xb yn yp
  go_upto_region 3 with fail
  rw [HX.out]
  clear HX
  clear qT_0 qT_1 lT fT_0 fT_1
  obtain ⟨qT_0, qT_1⟩ := KT.out.c2w
  have lT := KT.out.lt
  obtain ⟨fT_0, fT_1⟩ := KT.out.f2w
  go_wp2_with fail
  refine (spin_wo Ap Bp i1.length ap s0.length bp i1 s0 1 _ Rp.out.i.ints Rp.out.s.ints).mono ?_
  rw [H2.out]
  try dsimp only
  rintro e U5 ⟨Aq, aq, Bq, bq, he, ow, bU5⟩
  try dsimp only at he ow
  subst he
  clear qT_0 qT_1 lT fT_0 fT_1
  have LT_q : Hid (gT < X3.heap.size) := Lib.hid KT.out.lt
  have HBBq : Hid (w.heap.size ≤ X3.heap.size) := Lib.hid BB.out.size
  have HSZq : Hid (X3.heap.size ≤ U5.heap.size) := Lib.hid bU5.size
  have Rq := Lib.hid ow
  clear ow
  replace KT := Lib.hid (KT.out.below bU5 KT.out.lt)
  replace Rn := Lib.hid (Rn.out.below bU5)
  replace Rp := Lib.hid (Rp.out.below bU5)
  replace BB := Lib.hid (below3 BB.out bU5)
  clear bU5
  obtain ⟨qT_0, qT_1⟩ := KT.out.c2w
  have lT := KT.out.lt
  obtain ⟨fT_0, fT_1⟩ := KT.out.f2w
  have x0 := bk_set2w KT.out (.slice Aq i1.length aq) (.slice Bq s0.length bq)
  have xb := below_set2w (g := gT) BB.out HBT.out (.slice Aq i1.length aq) (.slice Bq s0.length bq)
  have yn := Rn.out.apart2 KT.out (by decide) (.slice Aq i1.length aq) (.slice Bq s0.length bq)
  have yp := Rp.out.apart2 KT.out (by decide) (.slice Aq i1.length aq) (.slice Bq s0.length bq)
  have yq := Rq.out.apart2 KT.out (by decide) (.slice Aq i1.length aq) (.slice Bq s0.length bq)
  obtain ⟨X5, hX⟩ : ∃ X, set2w U5 gT (.slice Aq i1.length aq) (.slice Bq s0.length bq) = X := ⟨_, rfl⟩
  rw [hX] at x0 xb yn yp yq
  unfold set2w at hX
  have HX := Lib.hid hX
  replace KT := Lib.hid x0
  replace BB := Lib.hid xb
  replace Rn := Lib.hid yn
  replace Rp := Lib.hid yp
  replace Rq := Lib.hid yq
  clear hX x0 xb yn yp yq
  go_upto_region 4 with fail
  rw [HX.out]
  clear HX
  clear qT_0 qT_1 lT fT_0 fT_1
  obtain ⟨qT_0, qT_1⟩ := KT.out.c2w
  have lT := KT.out.lt
  go_wp2_with fail
  refine (check_wo Aq Bq i1.length aq s0.length bq i1 s0 _ Rq.out.i.ints Rq.out.s.ints).mono ?_
  rw [H3.out]
  try dsimp only
  rintro e U7 ⟨rfl, bU7⟩
  clear qT_0 qT_1 lT
  replace KT := Lib.hid (KT.out.below bU7 KT.out.lt)
  replace Rn := Lib.hid (Rn.out.below bU7)
  replace Rp := Lib.hid (Rp.out.below bU7)
  replace Rq := Lib.hid (Rq.out.below bU7)
  replace BB := Lib.hid (below3 BB.out bU7)
  clear bU7
  go_wp2_with fail
  go_ret
  exact ⟨rfl, BB.out⟩

end Go.Proofs.Ytmndkofdoclihaa

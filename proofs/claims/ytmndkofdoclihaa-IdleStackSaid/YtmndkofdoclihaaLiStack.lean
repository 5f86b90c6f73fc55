/-
  The law IdleStack of layer 17, walked.
-/
import Derived.Test.YtmndkofdoclihaaLiBack
import Derived.Deep.LoopGhost
import Derived.Deep.CutBlock
namespace Go.Proofs.Ytmndkofdoclihaa
open Go.RowKit

theorem OwnW.grownL {w w' : World} {base : Nat} {A B L : Option Addr} {a b : Nat} {is st : List Int} (h : OwnW w base A a B b is st) (hg : w.grownBy w' (blkW L)) (hL : ∀ q, blkW L = some q → q < base) : OwnW w' base A a B b is st := by
  obtain ⟨m, h1, h2, h3⟩ := h.sx
  have key : ∀ {C : Option Addr} {bs : Nat} {c n : Nat} {zs : List Int}, OwnI 3 w bs C c zs → base ≤ bs → (Value.slice C n c).ownBlock = none ∨ (Value.slice C n c).ownBlock ≠ blkW L := by
    intro C bs c n zs hc hb
    rw [blk_anyW]
    cases e : blkW C with
    | none => exact .inl rfl
    | some k => exact .inr fun q => by have := (hc.blkW_lt k e).1; have := hL k q.symm; omega
  exact ⟨h.i.grown hg (key h.i (Nat.le_refl _)), m, h1, h2.grown hg (key h2 h1), h3⟩
theorem OwnI.apart2 {E T : TypeId} {w : World} {base g : Nat} {A : Option Addr} {c : Nat} {zs : List Int} {c0 c1 : Value} (h : OwnI E w base A c zs) (hk : Bk w g T #[c0, c1]) (hT : E ≠ T) (v0 v1 : Value) : OwnI E (set2w w g v0 v1) base A c zs := (h.otherW (h.neBk hk hT) v0).otherW (h.neBk hk hT) v1
theorem Octs.at_wo {w : World} {A : Option Addr} {n : Nat} {zs : List Int} (h : Octs w A n zs) {k : Nat} (hk : k < n) : ∃ b o, A = some ⟨b, o, none⟩ ∧ b < w.heap.size ∧ w.cell? ⟨b, o + k, none⟩ = some (.int .u8 (nth zs k)) := by
  obtain ⟨b, o, e, hb, hc⟩ := h.2.2.2 (by omega)
  exact ⟨b, o, e, hb, hc k hk⟩

set_option maxRecDepth 100000 in
set_option maxHeartbeats 16000000 in
theorem idlestack_any (F G : Option Addr) (nw cw nb cb : Nat) (x : Int) (ws bs : List Int) (w : World) (_ : nw ≤ 9223372036854775807) (hw : nw ≤ 140737488351232 → Octs w F nw ws) (_ : nb ≤ 9223372036854775807) (hb : nb ≤ 140737488351232 → Octs w G nb bs) :
    Calls Try.prog 6 #[.int .i64 x, .slice F nw cw, .slice G nb cb] w (RetB (.bool true) w) := by
  by_cases g0 : x < 1
  · replace g0 := decide_eq_true g0
    clear hw hb
    have BB := Lib.hid (Below.refl w.heap.size w)
    go_enter Try.func6, Try.ntmps6
    go_wp2_with fail
    refine (live_wo _).mono ?_
    try dsimp only
    rintro e U1 ⟨rfl, bU1⟩
    replace BB := Lib.hid (below3 BB.out bU1)
    clear bU1
    go_wp2_with fail
    go_ret
    exact ⟨rfl, BB.out⟩
  · by_cases g1 : 20 < x
    · replace g0 := decide_eq_false g0
      replace g1 := decide_eq_true g1
      clear hw hb
      have BB := Lib.hid (Below.refl w.heap.size w)
      go_enter Try.func6, Try.ntmps6
      go_wp2_with fail
      refine (live_wo _).mono ?_
      try dsimp only
      rintro e U1 ⟨rfl, bU1⟩
      replace BB := Lib.hid (below3 BB.out bU1)
      clear bU1
      go_wp2_with fail
      go_ret
      exact ⟨rfl, BB.out⟩
    · by_cases g2 : 60 < (nw : Int)
      · replace g0 := decide_eq_false g0
        replace g1 := decide_eq_false g1
        replace g2 := decide_eq_true g2
        clear hw hb
        have BB := Lib.hid (Below.refl w.heap.size w)
        go_enter Try.func6, Try.ntmps6
        go_wp2_with fail
        refine (live_wo _).mono ?_
        try dsimp only
        rintro e U1 ⟨rfl, bU1⟩
        replace BB := Lib.hid (below3 BB.out bU1)
        clear bU1
        go_wp2_with fail
        go_ret
        exact ⟨rfl, BB.out⟩
      · by_cases g3 : 60 < (nb : Int)
        · replace g0 := decide_eq_false g0
          replace g1 := decide_eq_false g1
          replace g2 := decide_eq_false g2
          replace g3 := decide_eq_true g3
          clear hw hb
          have BB := Lib.hid (Below.refl w.heap.size w)
          go_enter Try.func6, Try.ntmps6
          go_wp2_with fail
          refine (live_wo _).mono ?_
          try dsimp only
          rintro e U1 ⟨rfl, bU1⟩
          replace BB := Lib.hid (below3 BB.out bU1)
          clear bU1
          go_wp2_with fail
          go_ret
          exact ⟨rfl, BB.out⟩
        · obtain ⟨n, rfl⟩ : ∃ k : Nat, x = (k : Int) := ⟨x.toNat, by omega⟩
          have hn1 : 1 ≤ n := by omega
          have hn20 : n ≤ 20 := by omega
          have hw1 := hw (by omega)
          have hb1 := hb (by omega)
          clear hw hb
          replace g0 := decide_eq_false g0
          replace g1 := decide_eq_false g1
          replace g2 := decide_eq_false g2
          replace g3 := decide_eq_false g3
          have HWO := Lib.hid hw1
          have HBO := Lib.hid hb1
          have HNN := Lib.hid (newW_of (newWo_ok hn1 (by omega)) rfl)
          have HOK := Lib.hid (ok_new hn1 (show n ≤ 64 by omega))
          obtain ⟨i0, h0⟩ : ∃ l : List Int, List.replicate n 0 = l := ⟨_, rfl⟩
          have hl0 : i0.length = n := by rw [← h0]; simp
          have HZ0 : Hid (∀ x ∈ i0, x = 0 ∨ x = 2) := Lib.hid (by rw [← h0]; intro x hx; exact .inl (List.mem_replicate.1 hx).2)
          rw [h0] at HNN HOK
          have HL0 := Lib.hid hl0
          clear hl0 h0 hw1 hb1
          have BB := Lib.hid (Below.refl w.heap.size w)
          go_enter Try.func6, Try.ntmps6
          go_wp2_with fail
          refine (live_wo _).mono ?_
          try dsimp only
          rintro e U1 ⟨rfl, bU1⟩
          replace BB := Lib.hid (below3 BB.out bU1)
          clear bU1
          go_wp2_with fail
          refine (new_wo (n : Int) _).mono ?_
          rw [HNN.out]
          try dsimp only
          rintro e U2 ⟨An, an, Bn, bn, he, ow, bU2⟩
          try dsimp only at he ow
          subst he
          have HBBn : Hid (w.heap.size ≤ U1.heap.size) := Lib.hid BB.out.size
          have HSZn : Hid (U1.heap.size ≤ U2.heap.size) := Lib.hid bU2.size
          have Rn := Lib.hid ow
          clear ow
          replace BB := Lib.hid (below3 BB.out bU2)
          clear bU2
          have kt := Bk.new U2 24 #[.slice An i0.length an, .slice Bn 0 bn]
          have ba := (Below.refl U2.heap.size U2).alloc (Nat.le_refl _) (.cells #[.slice An i0.length an, .slice Bn 0 bn] 24)
          have hgb := BB.out.size
          replace Rn := Lib.hid (Rn.out.below ba)
          replace BB := Lib.hid (below3 BB.out ba)
          clear ba
          obtain ⟨W3, hW⟩ : ∃ W, U2.alloc (.cells #[.slice An i0.length an, .slice Bn 0 bn] 24) = W := ⟨_, rfl⟩
          obtain ⟨gT, hg⟩ : ∃ g, U2.heap.size = g := ⟨_, rfl⟩
          rw [hW] at kt BB Rn
          rw [hg] at kt hgb HSZn
          have HW := Lib.hid hW
          have HG := Lib.hid hg
          have KT := Lib.hid kt
          have HBT := Lib.hid hgb
          clear hW hg kt hgb
          go_upto_region 7 with fail
          rw [HW.out]
          try rw [HG.out]
          clear HW HG
          go_wp2_with fail
          go_loopw [10, 59] (fun u t wr => ∃ (k : Nat) (is st : List Int) (A : Option Addr) (a : Nat) (B : Option Addr) (b : Nat) (L : Option Addr) (l : Nat), k ≤ nw ∧ t = .int .i64 k ∧ u = .slice L st.length l ∧ Hid (OwnW wr w.heap.size A a B b is st ∧ OwnI 3 wr w.heap.size L l st ∧ Below w.heap.size w wr ∧ Bk wr gT 24 #[.slice A is.length a, .slice B st.length b]) ∧ Hid (okWo is st ∧ is.length = n ∧ ∀ x ∈ is, x = 0 ∨ x = 2)) (fun _ t _ => nw - (intOf t).toNat)
          case atStart => exact ⟨0, i0, [], An, an, Bn, bn, none, 0, Nat.zero_le _, rfl, rfl, Lib.hid ⟨Rn.out.base_ HBBn.out, OwnI.nil_ _ _ _, BB.out, KT.out⟩, Lib.hid ⟨HOK.out, HL0.out, HZ0.out⟩⟩
          case round =>
            clear KT Rn
            rename World => wr
            obtain ⟨k, is, st, A, a, B, b, L, l, hk, rfl, rfl, OW, OK⟩ := hrel
            by_cases hkn : k < nw
            · obtain ⟨bS, o, rfl, hbS, c0⟩ := (HWO.out.below OW.out.2.2.1).at_wo hkn
              have hzo := HWO.out.oct k
              obtain ⟨z, hz⟩ : ∃ z, nth ws k = z := ⟨_, rfl⟩
              rw [hz] at c0 hzo
              clear hz
              obtain ⟨zn, rfl⟩ := Int.eq_ofNat_of_zero_le hzo.1
              obtain ⟨i, hi⟩ : ∃ i, zn % n = i := ⟨_, rfl⟩
              have hin : i < n := by rw [← hi]; exact Nat.mod_lt _ (by omega)
              have htm : Int.tmod (zn : Int) (n : Int) = (i : Int) := by rw [Int.tmod_eq_emod_of_nonneg (by omega), ← hi]; simp
              have hnz : ¬ n = 0 := by omega
              have hzw : IntKind.i64.wrap (zn : Int) = (zn : Int) := by have := hzo.2; rw [IntKind.wrap_i64]; omega
              have hiw : IntKind.i64.wrap (i : Int) = (i : Int) := by rw [IntKind.wrap_i64]; omega
              clear hi hzo
              have K8 := Lib.hid OW.out.2.2.2
              have BB := Lib.hid OW.out.2.2.1
              have RD := Lib.hid OW.out.1
              have OL := Lib.hid OW.out.2.1
              clear OW
              have hinw : inWo is st (i : Int) := ⟨OK.out.1, by omega, by have := OK.out.2.1; omega⟩
              have hil : i < is.length := by have := OK.out.2.1; omega
              by_cases hz2 : nth is i = 0
              · have OK1 := And.intro (ok_ann OK.out.1 hil (by omega)) (And.intro (show (is.set i 2).length = n by rw [List.length_set]; exact OK.out.2.1) (show ∀ x ∈ is.set i 2, x = 0 ∨ x = 2 from fun x hx => by rcases List.mem_or_eq_of_mem_set hx with q | rfl; exact OK.out.2.2 x q; exact .inr rfl))
                have HSL : Hid (st.length ≤ 64) := Lib.hid (by have := OK.out.1.2.2.2.1; have := many_all OK.out.1.2.1; have := OK.out.1.1; omega)
                have hA : annWo is st (i : Int) = (is.set i 2, st ++ [(i : Int)], 0) := by unfold annWo; rw [if_pos hinw, Int.toNat_natCast, if_pos (by omega)]
                obtain ⟨i1, h1⟩ : ∃ l, is.set i 2 = l := ⟨_, rfl⟩
                obtain ⟨s1, hs1⟩ : ∃ l, st ++ [(i : Int)] = l := ⟨_, rfl⟩
                rw [h1, hs1] at hA OK1
                replace OK1 := Lib.hid OK1
                have HI1 := Lib.hid h1
                have HS1 := Lib.hid hs1
                have HAN := Lib.hid hA
                clear hA h1 hs1 hz2 hinw
                obtain ⟨q0, q1⟩ := K8.out.c2w
                have l8 := K8.out.lt
                go_upto_region 13 with fail
                refine wp_region_held (S := fun U => U.cell? ⟨gT, 0, none⟩ = some (.slice A is.length a) ∧ U.cell? ⟨gT, 1, none⟩ = some (.slice B st.length b)) (by kernel_rfl) ?_
                change wpAnyH _ _ _ _ _ _ _ _ (World.drew _)
                have bd := (Below.refl wr.heap.size wr).drew
                replace K8 := Lib.hid (K8.out.below bd K8.out.lt)
                replace RD := Lib.hid (RD.out.below bd)
                replace OL := Lib.hid (OL.out.below bd)
                replace BB := Lib.hid (below3 BB.out bd)
                clear bd q0 q1 l8
                obtain ⟨W0, hW⟩ : ∃ W0, wr.drew = W0 := ⟨_, rfl⟩
                rw [hW] at K8 RD OL BB ⊢
                clear hW
                have h0 := And.intro K8.out.c0 K8.out.c1
                refine wpAnyH_take (i := 0) (v := .agg #[.slice A is.length a, .slice B st.length b]) rfl (by kernel_rfl) (by kernel_rfl) (by kernel_rfl) (fun _ _ _ h => h) (.inl ⟨by rfl, fun U hU => by obtain ⟨u0, u1⟩ := hU; go_simp⟩) h0 ?_
                refine wpAnyH_take (i := 1) (v := .int .u8 (zn : Int)) rfl (by kernel_rfl) (by kernel_rfl) (by kernel_rfl) (fun _ _ _ h => h) (.inl ⟨by rfl, fun U hU => by obtain ⟨u0, u1⟩ := hU; go_simp⟩) h0 ?_
                refine wpAnyH_take (i := 3) (v := .int .i64 (n : Int)) rfl (by kernel_rfl) (by kernel_rfl) (by kernel_rfl) (fun _ _ _ h => h) (.inl ⟨by rfl, fun U hU => by obtain ⟨u0, u1⟩ := hU; go_simp⟩) h0 ?_
                refine wpAnyH_take (i := 2) (v := .int .i64 (zn : Int)) rfl (by kernel_rfl) (by kernel_rfl) (by kernel_rfl) (fun _ _ _ h => h) (.inl ⟨by rfl, fun U hU => by obtain ⟨u0, u1⟩ := hU; go_simp⟩) h0 ?_
                refine wpAnyH_take (i := 4) (v := .int .i64 (i : Int)) rfl (by kernel_rfl) (by kernel_rfl) (by kernel_rfl) (fun _ _ _ h => h) (.inl ⟨by rfl, fun U hU => by obtain ⟨u0, u1⟩ := hU; go_simp⟩) h0 ?_
                refine wpAnyH_all (rs := [5, 9]) (by kernel_rfl) (by simp) ?_
                intro q hq
                simp only [List.mem_cons, List.not_mem_nil, or_false] at hq
                rcases hq with rfl | rfl
                · unfold wpOp
                  go_simp
                  left
                  refine (ann_wo A B is.length a st.length b is st (i : Int) _ RD.out.i.ints RD.out.s.ints).mono ?_
                  rw [HAN.out]
                  try dsimp only
                  rintro e U ⟨A1, a1, B1, b1, he, ow, bU⟩
                  try dsimp only at he ow
                  subst he
                  have HLB : Hid ((∀ q, blkW L = some q → q < W0.heap.size) ∧ w.heap.size ≤ W0.heap.size) := Lib.hid ⟨fun q e => (OL.out.blkW_lt q e).2, BB.out.size⟩
                  replace K8 := Lib.hid (K8.out.below bU K8.out.lt)
                  replace BB := Lib.hid (below3 BB.out bU)
                  replace RD := Lib.hid (RD.out.below bU)
                  replace OL := Lib.hid (OL.out.below bU)
                  have R1 := Lib.hid ow
                  clear ow bU
                  have h1 := And.intro K8.out.c0 K8.out.c1
                  refine ⟨h1, ?_⟩
                  refine wpAnyH_take (i := 6) (v := .tuple #[.agg #[.slice A1 i1.length a1, .slice B1 s1.length b1], .int .i64 0]) rfl (by kernel_rfl) (by kernel_rfl) (by kernel_rfl) (fun _ _ _ h => h) (.inl ⟨by rfl, fun U hU => by obtain ⟨u0, u1⟩ := hU; go_simp⟩) h1 ?_
                  refine wpAnyH_take (i := 7) (v := .agg #[.slice A1 i1.length a1, .slice B1 s1.length b1]) rfl (by kernel_rfl) (by kernel_rfl) (by kernel_rfl) (fun _ _ _ h => h) (.inl ⟨by rfl, fun U hU => by obtain ⟨u0, u1⟩ := hU; go_simp⟩) h1 ?_
                  refine wpAnyH_take (i := 8) (v := .int .i64 0) rfl (by kernel_rfl) (by kernel_rfl) (by kernel_rfl) (fun _ _ _ h => h) (.inl ⟨by rfl, fun U hU => by obtain ⟨u0, u1⟩ := hU; go_simp⟩) h1 ?_
                  refine wpAnyH_all (rs := [9]) (by kernel_rfl) (by simp) ?_
                  intro q hq
                  simp only [List.mem_cons, List.not_mem_nil, or_false] at hq
                  subst hq
                  unfold wpOp
                  go_simp
                  have kt := Bk.new U 24 #[.slice none 0 0, .slice none 0 0]
                  have ba := (Below.refl U.heap.size U).alloc (Nat.le_refl _) (.cells #[.slice none 0 0, .slice none 0 0] 24)
                  have net := Nat.ne_of_lt K8.out.lt
                  have hgb := BB.out.size
                  replace K8 := Lib.hid (K8.out.below ba K8.out.lt)
                  replace BB := Lib.hid (below3 BB.out ba)
                  replace RD := Lib.hid (RD.out.below ba)
                  replace OL := Lib.hid (OL.out.below ba)
                  replace R1 := Lib.hid (R1.out.below ba)
                  obtain ⟨W2, hW⟩ : ∃ W, U.alloc (.cells #[.slice none 0 0, .slice none 0 0] 24) = W := ⟨_, rfl⟩
                  obtain ⟨g13, hg⟩ : ∃ g, U.heap.size = g := ⟨_, rfl⟩
                  rw [hW] at kt K8 BB RD OL R1 ⊢
                  try rw [hg]
                  rw [hg] at kt net hgb
                  have K13 := Lib.hid kt
                  have NET := Lib.hid net
                  have HGB := Lib.hid hgb
                  clear hW hg kt net hgb ba
                  left
                  refine ⟨⟨K8.out.c0, K8.out.c1⟩, ?_⟩
                  have x13 := bk_set2w K13.out (.slice A1 i1.length a1) (.slice B1 s1.length b1)
                  have xb := below_set2w (g := g13) BB.out HGB.out (.slice A1 i1.length a1) (.slice B1 s1.length b1)
                  have x8 := far_set2w K8.out NET.out (.slice A1 i1.length a1) (.slice B1 s1.length b1)
                  have yd := RD.out.apart2 K13.out (by decide) (.slice A1 i1.length a1) (.slice B1 s1.length b1)
                  have yl := OL.out.apart2 K13.out (by decide) (.slice A1 i1.length a1) (.slice B1 s1.length b1)
                  have y1 := R1.out.apart2 K13.out (by decide) (.slice A1 i1.length a1) (.slice B1 s1.length b1)
                  obtain ⟨k0, k1⟩ := K13.out.c2w
                  obtain ⟨fk0, fk1⟩ := K13.out.f2w
                  have lk := K13.out.lt
                  obtain ⟨X, hX⟩ : ∃ X, set2w W2 g13 (.slice A1 i1.length a1) (.slice B1 s1.length b1) = X := ⟨_, rfl⟩
                  rw [hX] at x13 xb x8 yd yl y1
                  unfold set2w at hX
                  have HX := Lib.hid hX
                  clear hX
                  refine wpAnyH_all (rs := [10]) (by kernel_rfl) (by simp) ?_
                  intro q hq
                  simp only [List.mem_cons, List.not_mem_nil, or_false] at hq
                  subst hq
                  unfold wpOp
                  go_simp
                  left
                  rw [HX.out]
                  refine ⟨⟨by first | exact x8.c0 | exact (K8.out.far (p := ⟨g13, 0, none⟩) NET.out _).c0 | exact (K8.out.far (p := ⟨g13, 1, none⟩) NET.out _).c0, by first | exact x8.c1 | exact (K8.out.far (p := ⟨g13, 0, none⟩) NET.out _).c1 | exact (K8.out.far (p := ⟨g13, 1, none⟩) NET.out _).c1⟩, ?_⟩
                  replace K13 := Lib.hid x13
                  replace BB := Lib.hid xb
                  replace K8 := Lib.hid x8
                  replace RD := Lib.hid yd
                  replace OL := Lib.hid yl
                  replace R1 := Lib.hid y1
                  clear x13 xb x8 yd yl y1 k0 k1 fk0 fk1 lk HX
                  have h3 := And.intro K8.out.c0 K8.out.c1
                  refine wpAnyH_take (i := 11) (v := .int .i64 0) rfl (by kernel_rfl) (by kernel_rfl) (by kernel_rfl) (fun _ _ _ h => h) (.inl ⟨by rfl, fun U hU => by obtain ⟨u0, u1⟩ := hU; go_simp⟩) h3 ?_
                  refine wpAnyH_done (by kernel_rfl) ?_ _
                  clear h0 h1 h3
                  go_upto_region 15 with fail
                  obtain ⟨k0, k1⟩ := K13.out.c2w
                  have lk := K13.out.lt
                  obtain ⟨f0, f1⟩ := K8.out.f2w
                  obtain ⟨q0, q1⟩ := K8.out.c2w
                  have l8 := K8.out.lt
                  have x8 := bk_set2w K8.out (.slice A1 i1.length a1) (.slice B1 s1.length b1)
                  have xb := below_set2w (g := gT) BB.out HBT.out (.slice A1 i1.length a1) (.slice B1 s1.length b1)
                  have yl := OL.out.apart2 K8.out (by decide) (.slice A1 i1.length a1) (.slice B1 s1.length b1)
                  have y1 := R1.out.apart2 K8.out (by decide) (.slice A1 i1.length a1) (.slice B1 s1.length b1)
                  obtain ⟨X2, hX⟩ : ∃ X2, set2w X gT (.slice A1 i1.length a1) (.slice B1 s1.length b1) = X2 := ⟨_, rfl⟩
                  rw [hX] at x8 xb yl y1
                  unfold set2w at hX
                  have HX := Lib.hid hX
                  clear hX
                  go_upto_region 16 with fail
                  rw [HX.out]
                  clear HX k0 k1 lk f0 f1 q0 q1 l8 K13 RD
                  replace K8 := Lib.hid x8
                  replace BB := Lib.hid xb
                  replace OL := Lib.hid yl
                  replace R1 := Lib.hid y1
                  clear x8 xb yl y1
                  have FJ : Hid (Fit (i : Int)) := Lib.hid (by unfold Fit; omega)
                  have ba := Lib.hid ((Below.refl X2.heap.size X2).alloc (Nat.le_refl _) (.cells #[.int .i64 (i : Int)] 3))
                  go_wp2_with (at_builtin; refine wpList_append_ints _ rfl _ _ 22 rfl 3 Try.underlying22 Try.intInfo17 w.heap.size L l st st.length rfl rfl (OL.out.below ba.out) (some ⟨X2.heap.size, 0, none⟩) 1 1 [(i : Int)] rfl (ints1 X2 3 FJ.out) (by have := HSL.out; omega) (Nat.le_trans BB.out.size ba.out.size) ?_; intro L2 l2 w9 ho hg; rw [blk_anyW] at hg; have HB9 := Lib.hid (app_wo (n := st.length) OL.out BB.out (by rw [blk_anyW]; exact hg)); have HR9 := Lib.hid ((R1.out.below ba.out).grownL hg HLB.out.1); have HK9 := Lib.hid ((K8.out.below ba.out K8.out.lt).grown hg (fun q => OL.out.neBk K8.out (by decide) q.symm)); have HO9 := Lib.hid ho; clear ho hg ba K8 BB OL R1)
                  go_roundw
                  case rel => exact ⟨k + 1, i1, s1, A1, a1, B1, b1, L2, l2, by omega, by go_num, by rw [← HS1.out]; simp, Lib.hid ⟨HR9.out.base_ HLB.out.2, by rw [← HS1.out]; exact HO9.out, HB9.out, HK9.out⟩, OK1⟩
                  case measure => simp [intOf]; omega
                · unfold wpOp
                  go_simp
                  have kt := Bk.new W0 24 #[.slice none 0 0, .slice none 0 0]
                  have ba := (Below.refl W0.heap.size W0).alloc (Nat.le_refl _) (.cells #[.slice none 0 0, .slice none 0 0] 24)
                  have net := Nat.ne_of_lt K8.out.lt
                  have hgb := BB.out.size
                  replace K8 := Lib.hid (K8.out.below ba K8.out.lt)
                  replace BB := Lib.hid (below3 BB.out ba)
                  replace RD := Lib.hid (RD.out.below ba)
                  replace OL := Lib.hid (OL.out.below ba)
                  obtain ⟨W2, hW⟩ : ∃ W, W0.alloc (.cells #[.slice none 0 0, .slice none 0 0] 24) = W := ⟨_, rfl⟩
                  obtain ⟨g13, hg⟩ : ∃ g, W0.heap.size = g := ⟨_, rfl⟩
                  rw [hW] at kt K8 BB RD OL ⊢
                  try rw [hg]
                  rw [hg] at kt net hgb
                  have K13 := Lib.hid kt
                  have NET := Lib.hid net
                  have HGB := Lib.hid hgb
                  clear hW hg kt net hgb ba
                  left
                  have h2 := And.intro K8.out.c0 K8.out.c1
                  refine ⟨h2, ?_⟩
                  refine wpAnyH_all (rs := [5]) (by kernel_rfl) (by simp) ?_
                  intro q hq
                  simp only [List.mem_cons, List.not_mem_nil, or_false] at hq
                  subst hq
                  unfold wpOp
                  go_simp
                  left
                  refine (ann_wo A B is.length a st.length b is st (i : Int) _ RD.out.i.ints RD.out.s.ints).mono ?_
                  rw [HAN.out]
                  try dsimp only
                  rintro e U ⟨A1, a1, B1, b1, he, ow, bU⟩
                  try dsimp only at he ow
                  subst he
                  have HLB : Hid ((∀ q, blkW L = some q → q < W2.heap.size) ∧ w.heap.size ≤ W2.heap.size) := Lib.hid ⟨fun q e => (OL.out.blkW_lt q e).2, BB.out.size⟩
                  replace K8 := Lib.hid (K8.out.below bU K8.out.lt)
                  replace K13 := Lib.hid (K13.out.below bU K13.out.lt)
                  replace BB := Lib.hid (below3 BB.out bU)
                  replace RD := Lib.hid (RD.out.below bU)
                  replace OL := Lib.hid (OL.out.below bU)
                  have R1 := Lib.hid ow
                  clear ow bU
                  have h1 := And.intro K8.out.c0 K8.out.c1
                  refine ⟨h1, ?_⟩
                  clear h2
                  refine wpAnyH_take (i := 6) (v := .tuple #[.agg #[.slice A1 i1.length a1, .slice B1 s1.length b1], .int .i64 0]) rfl (by kernel_rfl) (by kernel_rfl) (by kernel_rfl) (fun _ _ _ h => h) (.inl ⟨by rfl, fun U hU => by obtain ⟨u0, u1⟩ := hU; go_simp⟩) h1 ?_
                  refine wpAnyH_take (i := 7) (v := .agg #[.slice A1 i1.length a1, .slice B1 s1.length b1]) rfl (by kernel_rfl) (by kernel_rfl) (by kernel_rfl) (fun _ _ _ h => h) (.inl ⟨by rfl, fun U hU => by obtain ⟨u0, u1⟩ := hU; go_simp⟩) h1 ?_
                  refine wpAnyH_take (i := 8) (v := .int .i64 0) rfl (by kernel_rfl) (by kernel_rfl) (by kernel_rfl) (fun _ _ _ h => h) (.inl ⟨by rfl, fun U hU => by obtain ⟨u0, u1⟩ := hU; go_simp⟩) h1 ?_
                  have x13 := bk_set2w K13.out (.slice A1 i1.length a1) (.slice B1 s1.length b1)
                  have xb := below_set2w (g := g13) BB.out HGB.out (.slice A1 i1.length a1) (.slice B1 s1.length b1)
                  have x8 := far_set2w K8.out NET.out (.slice A1 i1.length a1) (.slice B1 s1.length b1)
                  have yd := RD.out.apart2 K13.out (by decide) (.slice A1 i1.length a1) (.slice B1 s1.length b1)
                  have yl := OL.out.apart2 K13.out (by decide) (.slice A1 i1.length a1) (.slice B1 s1.length b1)
                  have y1 := R1.out.apart2 K13.out (by decide) (.slice A1 i1.length a1) (.slice B1 s1.length b1)
                  obtain ⟨k0, k1⟩ := K13.out.c2w
                  obtain ⟨fk0, fk1⟩ := K13.out.f2w
                  have lk := K13.out.lt
                  obtain ⟨X, hX⟩ : ∃ X, set2w U g13 (.slice A1 i1.length a1) (.slice B1 s1.length b1) = X := ⟨_, rfl⟩
                  rw [hX] at x13 xb x8 yd yl y1
                  unfold set2w at hX
                  have HX := Lib.hid hX
                  clear hX
                  refine wpAnyH_all (rs := [10]) (by kernel_rfl) (by simp) ?_
                  intro q hq
                  simp only [List.mem_cons, List.not_mem_nil, or_false] at hq
                  subst hq
                  unfold wpOp
                  go_simp
                  left
                  rw [HX.out]
                  refine ⟨⟨by first | exact x8.c0 | exact (K8.out.far (p := ⟨g13, 0, none⟩) NET.out _).c0 | exact (K8.out.far (p := ⟨g13, 1, none⟩) NET.out _).c0, by first | exact x8.c1 | exact (K8.out.far (p := ⟨g13, 0, none⟩) NET.out _).c1 | exact (K8.out.far (p := ⟨g13, 1, none⟩) NET.out _).c1⟩, ?_⟩
                  replace K13 := Lib.hid x13
                  replace BB := Lib.hid xb
                  replace K8 := Lib.hid x8
                  replace RD := Lib.hid yd
                  replace OL := Lib.hid yl
                  replace R1 := Lib.hid y1
                  clear x13 xb x8 yd yl y1 k0 k1 fk0 fk1 lk HX
                  have h3 := And.intro K8.out.c0 K8.out.c1
                  refine wpAnyH_take (i := 11) (v := .int .i64 0) rfl (by kernel_rfl) (by kernel_rfl) (by kernel_rfl) (fun _ _ _ h => h) (.inl ⟨by rfl, fun U hU => by obtain ⟨u0, u1⟩ := hU; go_simp⟩) h3 ?_
                  refine wpAnyH_done (by kernel_rfl) ?_ _
                  clear h0 h1 h3
                  go_upto_region 15 with fail
                  obtain ⟨k0, k1⟩ := K13.out.c2w
                  have lk := K13.out.lt
                  obtain ⟨f0, f1⟩ := K8.out.f2w
                  obtain ⟨q0, q1⟩ := K8.out.c2w
                  have l8 := K8.out.lt
                  have x8 := bk_set2w K8.out (.slice A1 i1.length a1) (.slice B1 s1.length b1)
                  have xb := below_set2w (g := gT) BB.out HBT.out (.slice A1 i1.length a1) (.slice B1 s1.length b1)
                  have yl := OL.out.apart2 K8.out (by decide) (.slice A1 i1.length a1) (.slice B1 s1.length b1)
                  have y1 := R1.out.apart2 K8.out (by decide) (.slice A1 i1.length a1) (.slice B1 s1.length b1)
                  obtain ⟨X2, hX⟩ : ∃ X2, set2w X gT (.slice A1 i1.length a1) (.slice B1 s1.length b1) = X2 := ⟨_, rfl⟩
                  rw [hX] at x8 xb yl y1
                  unfold set2w at hX
                  have HX := Lib.hid hX
                  clear hX
                  go_upto_region 16 with fail
                  rw [HX.out]
                  clear HX k0 k1 lk f0 f1 q0 q1 l8 K13 RD
                  replace K8 := Lib.hid x8
                  replace BB := Lib.hid xb
                  replace OL := Lib.hid yl
                  replace R1 := Lib.hid y1
                  clear x8 xb yl y1
                  have FJ : Hid (Fit (i : Int)) := Lib.hid (by unfold Fit; omega)
                  have ba := Lib.hid ((Below.refl X2.heap.size X2).alloc (Nat.le_refl _) (.cells #[.int .i64 (i : Int)] 3))
                  go_wp2_with (at_builtin; refine wpList_append_ints _ rfl _ _ 22 rfl 3 Try.underlying22 Try.intInfo17 w.heap.size L l st st.length rfl rfl (OL.out.below ba.out) (some ⟨X2.heap.size, 0, none⟩) 1 1 [(i : Int)] rfl (ints1 X2 3 FJ.out) (by have := HSL.out; omega) (Nat.le_trans BB.out.size ba.out.size) ?_; intro L2 l2 w9 ho hg; rw [blk_anyW] at hg; have HB9 := Lib.hid (app_wo (n := st.length) OL.out BB.out (by rw [blk_anyW]; exact hg)); have HR9 := Lib.hid ((R1.out.below ba.out).grownL hg HLB.out.1); have HK9 := Lib.hid ((K8.out.below ba.out K8.out.lt).grown hg (fun q => OL.out.neBk K8.out (by decide) q.symm)); have HO9 := Lib.hid ho; clear ho hg ba K8 BB OL R1)
                  go_roundw
                  case rel => exact ⟨k + 1, i1, s1, A1, a1, B1, b1, L2, l2, by omega, by go_num, by rw [← HS1.out]; simp, Lib.hid ⟨HR9.out.base_ HLB.out.2, by rw [← HS1.out]; exact HO9.out, HB9.out, HK9.out⟩, OK1⟩
                  case measure => simp [intOf]; omega
              · replace hz2 : nth is i = 2 := by
                  have := OK.out.2.2 (nth is i) (nth_memBt.2 ⟨i, hil, rfl⟩)
                  omega
                have hA : annWo is st (i : Int) = ([], [], 9) := by unfold annWo; rw [if_pos hinw, Int.toNat_natCast, if_neg (by omega)]
                have HAN := Lib.hid hA
                clear hA hz2 hinw
                obtain ⟨q0, q1⟩ := K8.out.c2w
                have l8 := K8.out.lt
                go_upto_region 13 with fail
                refine wp_region_held (S := fun U => U.cell? ⟨gT, 0, none⟩ = some (.slice A is.length a) ∧ U.cell? ⟨gT, 1, none⟩ = some (.slice B st.length b)) (by kernel_rfl) ?_
                change wpAnyH _ _ _ _ _ _ _ _ (World.drew _)
                have bd := (Below.refl wr.heap.size wr).drew
                replace K8 := Lib.hid (K8.out.below bd K8.out.lt)
                replace RD := Lib.hid (RD.out.below bd)
                replace OL := Lib.hid (OL.out.below bd)
                replace BB := Lib.hid (below3 BB.out bd)
                clear bd q0 q1 l8
                obtain ⟨W0, hW⟩ : ∃ W0, wr.drew = W0 := ⟨_, rfl⟩
                rw [hW] at K8 RD OL BB ⊢
                clear hW
                have h0 := And.intro K8.out.c0 K8.out.c1
                refine wpAnyH_take (i := 0) (v := .agg #[.slice A is.length a, .slice B st.length b]) rfl (by kernel_rfl) (by kernel_rfl) (by kernel_rfl) (fun _ _ _ h => h) (.inl ⟨by rfl, fun U hU => by obtain ⟨u0, u1⟩ := hU; go_simp⟩) h0 ?_
                refine wpAnyH_take (i := 1) (v := .int .u8 (zn : Int)) rfl (by kernel_rfl) (by kernel_rfl) (by kernel_rfl) (fun _ _ _ h => h) (.inl ⟨by rfl, fun U hU => by obtain ⟨u0, u1⟩ := hU; go_simp⟩) h0 ?_
                refine wpAnyH_take (i := 3) (v := .int .i64 (n : Int)) rfl (by kernel_rfl) (by kernel_rfl) (by kernel_rfl) (fun _ _ _ h => h) (.inl ⟨by rfl, fun U hU => by obtain ⟨u0, u1⟩ := hU; go_simp⟩) h0 ?_
                refine wpAnyH_take (i := 2) (v := .int .i64 (zn : Int)) rfl (by kernel_rfl) (by kernel_rfl) (by kernel_rfl) (fun _ _ _ h => h) (.inl ⟨by rfl, fun U hU => by obtain ⟨u0, u1⟩ := hU; go_simp⟩) h0 ?_
                refine wpAnyH_take (i := 4) (v := .int .i64 (i : Int)) rfl (by kernel_rfl) (by kernel_rfl) (by kernel_rfl) (fun _ _ _ h => h) (.inl ⟨by rfl, fun U hU => by obtain ⟨u0, u1⟩ := hU; go_simp⟩) h0 ?_
                refine wpAnyH_all (rs := [5, 9]) (by kernel_rfl) (by simp) ?_
                intro q hq
                simp only [List.mem_cons, List.not_mem_nil, or_false] at hq
                rcases hq with rfl | rfl
                · unfold wpOp
                  go_simp
                  left
                  refine (ann_wo A B is.length a st.length b is st (i : Int) _ RD.out.i.ints RD.out.s.ints).mono ?_
                  rw [HAN.out]
                  try dsimp only
                  rintro e U ⟨A1, a1, B1, b1, he, ow, bU⟩
                  try dsimp only at he ow
                  subst he
                  have HLB : Hid ((∀ q, blkW L = some q → q < W0.heap.size) ∧ w.heap.size ≤ W0.heap.size) := Lib.hid ⟨fun q e => (OL.out.blkW_lt q e).2, BB.out.size⟩
                  replace K8 := Lib.hid (K8.out.below bU K8.out.lt)
                  replace BB := Lib.hid (below3 BB.out bU)
                  replace RD := Lib.hid (RD.out.below bU)
                  replace OL := Lib.hid (OL.out.below bU)
                  have R1 := Lib.hid ow
                  clear ow bU
                  have h1 := And.intro K8.out.c0 K8.out.c1
                  refine ⟨h1, ?_⟩
                  refine wpAnyH_take (i := 6) (v := .tuple #[.agg #[.slice A1 0 a1, .slice B1 0 b1], .int .i64 9]) rfl (by kernel_rfl) (by kernel_rfl) (by kernel_rfl) (fun _ _ _ h => h) (.inl ⟨by rfl, fun U hU => by obtain ⟨u0, u1⟩ := hU; go_simp⟩) h1 ?_
                  refine wpAnyH_take (i := 7) (v := .agg #[.slice A1 0 a1, .slice B1 0 b1]) rfl (by kernel_rfl) (by kernel_rfl) (by kernel_rfl) (fun _ _ _ h => h) (.inl ⟨by rfl, fun U hU => by obtain ⟨u0, u1⟩ := hU; go_simp⟩) h1 ?_
                  refine wpAnyH_take (i := 8) (v := .int .i64 9) rfl (by kernel_rfl) (by kernel_rfl) (by kernel_rfl) (fun _ _ _ h => h) (.inl ⟨by rfl, fun U hU => by obtain ⟨u0, u1⟩ := hU; go_simp⟩) h1 ?_
                  refine wpAnyH_all (rs := [9]) (by kernel_rfl) (by simp) ?_
                  intro q hq
                  simp only [List.mem_cons, List.not_mem_nil, or_false] at hq
                  subst hq
                  unfold wpOp
                  go_simp
                  have kt := Bk.new U 24 #[.slice none 0 0, .slice none 0 0]
                  have ba := (Below.refl U.heap.size U).alloc (Nat.le_refl _) (.cells #[.slice none 0 0, .slice none 0 0] 24)
                  have net := Nat.ne_of_lt K8.out.lt
                  have hgb := BB.out.size
                  replace K8 := Lib.hid (K8.out.below ba K8.out.lt)
                  replace BB := Lib.hid (below3 BB.out ba)
                  replace RD := Lib.hid (RD.out.below ba)
                  replace OL := Lib.hid (OL.out.below ba)
                  replace R1 := Lib.hid (R1.out.below ba)
                  obtain ⟨W2, hW⟩ : ∃ W, U.alloc (.cells #[.slice none 0 0, .slice none 0 0] 24) = W := ⟨_, rfl⟩
                  obtain ⟨g13, hg⟩ : ∃ g, U.heap.size = g := ⟨_, rfl⟩
                  rw [hW] at kt K8 BB RD OL R1 ⊢
                  try rw [hg]
                  rw [hg] at kt net hgb
                  have K13 := Lib.hid kt
                  have NET := Lib.hid net
                  have HGB := Lib.hid hgb
                  clear hW hg kt net hgb ba
                  left
                  refine ⟨⟨K8.out.c0, K8.out.c1⟩, ?_⟩
                  have x13 := bk_set2w K13.out (.slice A1 0 a1) (.slice B1 0 b1)
                  have xb := below_set2w (g := g13) BB.out HGB.out (.slice A1 0 a1) (.slice B1 0 b1)
                  have x8 := far_set2w K8.out NET.out (.slice A1 0 a1) (.slice B1 0 b1)
                  have yd := RD.out.apart2 K13.out (by decide) (.slice A1 0 a1) (.slice B1 0 b1)
                  have yl := OL.out.apart2 K13.out (by decide) (.slice A1 0 a1) (.slice B1 0 b1)
                  have y1 := R1.out.apart2 K13.out (by decide) (.slice A1 0 a1) (.slice B1 0 b1)
                  obtain ⟨k0, k1⟩ := K13.out.c2w
                  obtain ⟨fk0, fk1⟩ := K13.out.f2w
                  have lk := K13.out.lt
                  obtain ⟨X, hX⟩ : ∃ X, set2w W2 g13 (.slice A1 0 a1) (.slice B1 0 b1) = X := ⟨_, rfl⟩
                  rw [hX] at x13 xb x8 yd yl y1
                  unfold set2w at hX
                  have HX := Lib.hid hX
                  clear hX
                  refine wpAnyH_all (rs := [10]) (by kernel_rfl) (by simp) ?_
                  intro q hq
                  simp only [List.mem_cons, List.not_mem_nil, or_false] at hq
                  subst hq
                  unfold wpOp
                  go_simp
                  left
                  rw [HX.out]
                  refine ⟨⟨by first | exact x8.c0 | exact (K8.out.far (p := ⟨g13, 0, none⟩) NET.out _).c0 | exact (K8.out.far (p := ⟨g13, 1, none⟩) NET.out _).c0, by first | exact x8.c1 | exact (K8.out.far (p := ⟨g13, 0, none⟩) NET.out _).c1 | exact (K8.out.far (p := ⟨g13, 1, none⟩) NET.out _).c1⟩, ?_⟩
                  replace K13 := Lib.hid x13
                  replace BB := Lib.hid xb
                  replace K8 := Lib.hid x8
                  replace RD := Lib.hid yd
                  replace OL := Lib.hid yl
                  replace R1 := Lib.hid y1
                  clear x13 xb x8 yd yl y1 k0 k1 fk0 fk1 lk HX
                  have h3 := And.intro K8.out.c0 K8.out.c1
                  refine wpAnyH_take (i := 11) (v := .int .i64 9) rfl (by kernel_rfl) (by kernel_rfl) (by kernel_rfl) (fun _ _ _ h => h) (.inl ⟨by rfl, fun U hU => by obtain ⟨u0, u1⟩ := hU; go_simp⟩) h3 ?_
                  refine wpAnyH_done (by kernel_rfl) ?_ _
                  clear h0 h1 h3
                  go_wp2_with fail
                  go_roundw
                  case rel => exact ⟨k + 1, is, st, A, a, B, b, L, l, by omega, by go_num, rfl, Lib.hid ⟨RD.out, OL.out, BB.out, K8.out⟩, OK⟩
                  case measure => simp [intOf]; omega
                · unfold wpOp
                  go_simp
                  have kt := Bk.new W0 24 #[.slice none 0 0, .slice none 0 0]
                  have ba := (Below.refl W0.heap.size W0).alloc (Nat.le_refl _) (.cells #[.slice none 0 0, .slice none 0 0] 24)
                  have net := Nat.ne_of_lt K8.out.lt
                  have hgb := BB.out.size
                  replace K8 := Lib.hid (K8.out.below ba K8.out.lt)
                  replace BB := Lib.hid (below3 BB.out ba)
                  replace RD := Lib.hid (RD.out.below ba)
                  replace OL := Lib.hid (OL.out.below ba)
                  obtain ⟨W2, hW⟩ : ∃ W, W0.alloc (.cells #[.slice none 0 0, .slice none 0 0] 24) = W := ⟨_, rfl⟩
                  obtain ⟨g13, hg⟩ : ∃ g, W0.heap.size = g := ⟨_, rfl⟩
                  rw [hW] at kt K8 BB RD OL ⊢
                  try rw [hg]
                  rw [hg] at kt net hgb
                  have K13 := Lib.hid kt
                  have NET := Lib.hid net
                  have HGB := Lib.hid hgb
                  clear hW hg kt net hgb ba
                  left
                  have h2 := And.intro K8.out.c0 K8.out.c1
                  refine ⟨h2, ?_⟩
                  refine wpAnyH_all (rs := [5]) (by kernel_rfl) (by simp) ?_
                  intro q hq
                  simp only [List.mem_cons, List.not_mem_nil, or_false] at hq
                  subst hq
                  unfold wpOp
                  go_simp
                  left
                  refine (ann_wo A B is.length a st.length b is st (i : Int) _ RD.out.i.ints RD.out.s.ints).mono ?_
                  rw [HAN.out]
                  try dsimp only
                  rintro e U ⟨A1, a1, B1, b1, he, ow, bU⟩
                  try dsimp only at he ow
                  subst he
                  have HLB : Hid ((∀ q, blkW L = some q → q < W2.heap.size) ∧ w.heap.size ≤ W2.heap.size) := Lib.hid ⟨fun q e => (OL.out.blkW_lt q e).2, BB.out.size⟩
                  replace K8 := Lib.hid (K8.out.below bU K8.out.lt)
                  replace K13 := Lib.hid (K13.out.below bU K13.out.lt)
                  replace BB := Lib.hid (below3 BB.out bU)
                  replace RD := Lib.hid (RD.out.below bU)
                  replace OL := Lib.hid (OL.out.below bU)
                  have R1 := Lib.hid ow
                  clear ow bU
                  have h1 := And.intro K8.out.c0 K8.out.c1
                  refine ⟨h1, ?_⟩
                  clear h2
                  refine wpAnyH_take (i := 6) (v := .tuple #[.agg #[.slice A1 0 a1, .slice B1 0 b1], .int .i64 9]) rfl (by kernel_rfl) (by kernel_rfl) (by kernel_rfl) (fun _ _ _ h => h) (.inl ⟨by rfl, fun U hU => by obtain ⟨u0, u1⟩ := hU; go_simp⟩) h1 ?_
                  refine wpAnyH_take (i := 7) (v := .agg #[.slice A1 0 a1, .slice B1 0 b1]) rfl (by kernel_rfl) (by kernel_rfl) (by kernel_rfl) (fun _ _ _ h => h) (.inl ⟨by rfl, fun U hU => by obtain ⟨u0, u1⟩ := hU; go_simp⟩) h1 ?_
                  refine wpAnyH_take (i := 8) (v := .int .i64 9) rfl (by kernel_rfl) (by kernel_rfl) (by kernel_rfl) (fun _ _ _ h => h) (.inl ⟨by rfl, fun U hU => by obtain ⟨u0, u1⟩ := hU; go_simp⟩) h1 ?_
                  have x13 := bk_set2w K13.out (.slice A1 0 a1) (.slice B1 0 b1)
                  have xb := below_set2w (g := g13) BB.out HGB.out (.slice A1 0 a1) (.slice B1 0 b1)
                  have x8 := far_set2w K8.out NET.out (.slice A1 0 a1) (.slice B1 0 b1)
                  have yd := RD.out.apart2 K13.out (by decide) (.slice A1 0 a1) (.slice B1 0 b1)
                  have yl := OL.out.apart2 K13.out (by decide) (.slice A1 0 a1) (.slice B1 0 b1)
                  have y1 := R1.out.apart2 K13.out (by decide) (.slice A1 0 a1) (.slice B1 0 b1)
                  obtain ⟨k0, k1⟩ := K13.out.c2w
                  obtain ⟨fk0, fk1⟩ := K13.out.f2w
                  have lk := K13.out.lt
                  obtain ⟨X, hX⟩ : ∃ X, set2w U g13 (.slice A1 0 a1) (.slice B1 0 b1) = X := ⟨_, rfl⟩
                  rw [hX] at x13 xb x8 yd yl y1
                  unfold set2w at hX
                  have HX := Lib.hid hX
                  clear hX
                  refine wpAnyH_all (rs := [10]) (by kernel_rfl) (by simp) ?_
                  intro q hq
                  simp only [List.mem_cons, List.not_mem_nil, or_false] at hq
                  subst hq
                  unfold wpOp
                  go_simp
                  left
                  rw [HX.out]
                  refine ⟨⟨by first | exact x8.c0 | exact (K8.out.far (p := ⟨g13, 0, none⟩) NET.out _).c0 | exact (K8.out.far (p := ⟨g13, 1, none⟩) NET.out _).c0, by first | exact x8.c1 | exact (K8.out.far (p := ⟨g13, 0, none⟩) NET.out _).c1 | exact (K8.out.far (p := ⟨g13, 1, none⟩) NET.out _).c1⟩, ?_⟩
                  replace K13 := Lib.hid x13
                  replace BB := Lib.hid xb
                  replace K8 := Lib.hid x8
                  replace RD := Lib.hid yd
                  replace OL := Lib.hid yl
                  replace R1 := Lib.hid y1
                  clear x13 xb x8 yd yl y1 k0 k1 fk0 fk1 lk HX
                  have h3 := And.intro K8.out.c0 K8.out.c1
                  refine wpAnyH_take (i := 11) (v := .int .i64 9) rfl (by kernel_rfl) (by kernel_rfl) (by kernel_rfl) (fun _ _ _ h => h) (.inl ⟨by rfl, fun U hU => by obtain ⟨u0, u1⟩ := hU; go_simp⟩) h3 ?_
                  refine wpAnyH_done (by kernel_rfl) ?_ _
                  clear h0 h1 h3
                  go_wp2_with fail
                  go_roundw
                  case rel => exact ⟨k + 1, is, st, A, a, B, b, L, l, by omega, by go_num, rfl, Lib.hid ⟨RD.out, OL.out, BB.out, K8.out⟩, OK⟩
                  case measure => simp [intOf]; omega
            · obtain rfl : k = nw := by omega
              clear hk hkn HWO
              go_wp2_with fail
              go_loopw [10, 85] (fun u t wr => ∃ (k : Nat) (is st : List Int) (A : Option Addr) (a : Nat) (B : Option Addr) (b : Nat) (L : Option Addr) (l : Nat), k ≤ nb ∧ t = .int .i64 k ∧ u = .slice L st.length l ∧ Hid (OwnW wr w.heap.size A a B b is st ∧ OwnI 3 wr w.heap.size L l st ∧ Below w.heap.size w wr ∧ Bk wr gT 24 #[.slice A is.length a, .slice B st.length b]) ∧ Hid (okWo is st ∧ is.length = n ∧ ∀ x ∈ is, x = 0 ∨ x = 2)) (fun _ t _ => nb - (intOf t).toNat)
              case atStart => exact ⟨0, is, st, A, a, B, b, L, l, Nat.zero_le _, rfl, rfl, OW, OK⟩
              case round =>
                clear OW OK
                rename World => wr
                obtain ⟨k2, is, st, A, a, B, b, L, l, hk, rfl, rfl, OW, OK⟩ := hrel
                by_cases hkn : k2 < nb
                · obtain ⟨bS, o, rfl, hbS, c0⟩ := (HBO.out.below OW.out.2.2.1).at_wo hkn
                  have hzo := HBO.out.oct k2
                  obtain ⟨z, hz⟩ : ∃ z, nth bs k2 = z := ⟨_, rfl⟩
                  rw [hz] at c0 hzo
                  clear hz
                  obtain ⟨zn, rfl⟩ := Int.eq_ofNat_of_zero_le hzo.1
                  obtain ⟨i, hi⟩ : ∃ i, zn % n = i := ⟨_, rfl⟩
                  have hin : i < n := by rw [← hi]; exact Nat.mod_lt _ (by omega)
                  have htm : Int.tmod (zn : Int) (n : Int) = (i : Int) := by rw [Int.tmod_eq_emod_of_nonneg (by omega), ← hi]; simp
                  have hnz : ¬ n = 0 := by omega
                  have hzw : IntKind.i64.wrap (zn : Int) = (zn : Int) := by have := hzo.2; rw [IntKind.wrap_i64]; omega
                  have hiw : IntKind.i64.wrap (i : Int) = (i : Int) := by rw [IntKind.wrap_i64]; omega
                  clear hi hzo
                  have K8 := Lib.hid OW.out.2.2.2
                  have BB := Lib.hid OW.out.2.2.1
                  have RD := Lib.hid OW.out.1
                  have OL := Lib.hid OW.out.2.1
                  clear OW
                  have hil : i < is.length := by have := OK.out.2.1; omega
                  have hinw : inWo is st (i : Int) := ⟨OK.out.1, by omega, by omega⟩
                  have hF : foundWo is st (i : Int) = (is.set i 0, butBt st (i : Int), 0) := by unfold foundWo; rw [if_pos hinw, Int.toNat_natCast, if_neg (by have := OK.out.2.2 (nth is i) (nth_memBt.2 ⟨i, hil, rfl⟩); omega)]
                  have OK1 := And.intro (ok_wake OK.out.1 hil) (And.intro (show (is.set i 0).length = n by rw [List.length_set]; exact OK.out.2.1) (show ∀ x ∈ is.set i 0, x = 0 ∨ x = 2 from fun x hx => by rcases List.mem_or_eq_of_mem_set hx with q | rfl; exact OK.out.2.2 x q; exact .inl rfl))
                  have HSL : Hid (st.length ≤ 64) := Lib.hid (by have := OK.out.1.2.2.2.1; have := many_all OK.out.1.2.1; have := OK.out.1.1; omega)
                  obtain ⟨i1, h1⟩ : ∃ l, is.set i 0 = l := ⟨_, rfl⟩
                  obtain ⟨s1, hs1⟩ : ∃ l, butBt st (i : Int) = l := ⟨_, rfl⟩
                  rw [h1, hs1] at hF OK1
                  have HS1 := Lib.hid hs1
                  have HFN := Lib.hid hF
                  replace OK1 := Lib.hid OK1
                  clear hF h1 hs1 hinw OK
                  go_upto_region 22 with fail
                  clear c0
                  obtain ⟨q0, q1⟩ := K8.out.c2w
                  have l8 := K8.out.lt
                  go_wp2_with fail
                  refine (found_wo A B is.length a st.length b is st (i : Int) _ RD.out.i.ints RD.out.s.ints).mono ?_
                  rw [HFN.out]
                  try dsimp only
                  rintro e U ⟨A1, a1, B1, b1, he, ow, bU⟩
                  try dsimp only at he ow
                  subst he
                  clear q0 q1 l8
                  have HBS : Hid (w.heap.size ≤ wr.heap.size) := Lib.hid BB.out.size
                  replace K8 := Lib.hid (K8.out.below bU K8.out.lt)
                  replace BB := Lib.hid (below3 BB.out bU)
                  replace OL := Lib.hid (OL.out.below bU)
                  have R1 := Lib.hid (ow.base_ HBS.out)
                  clear ow bU RD HFN HBS
                  have kt := Bk.new U 24 #[.slice A1 i1.length a1, .slice B1 s1.length b1]
                  have ba := (Below.refl U.heap.size U).alloc (Nat.le_refl _) (.cells #[.slice A1 i1.length a1, .slice B1 s1.length b1] 24)
                  replace K8 := Lib.hid (K8.out.below ba K8.out.lt)
                  replace BB := Lib.hid (below3 BB.out ba)
                  replace OL := Lib.hid (OL.out.below ba)
                  replace R1 := Lib.hid (R1.out.below ba)
                  obtain ⟨V18, hW⟩ : ∃ W, U.alloc (.cells #[.slice A1 i1.length a1, .slice B1 s1.length b1] 24) = W := ⟨_, rfl⟩
                  obtain ⟨g18, hg⟩ : ∃ g, U.heap.size = g := ⟨_, rfl⟩
                  rw [hW] at kt K8 BB OL R1
                  rw [hg] at kt
                  have K18 := Lib.hid kt
                  have HW := Lib.hid hW
                  have HG := Lib.hid hg
                  clear hW hg kt ba
                  go_upto_region 23 with fail
                  rw [HW.out]
                  try rw [HG.out]
                  clear HW HG
                  go_upto_region 25 with fail
                  obtain ⟨k0, k1⟩ := K18.out.c2w
                  have lk := K18.out.lt
                  obtain ⟨f0, f1⟩ := K8.out.f2w
                  obtain ⟨q0, q1⟩ := K8.out.c2w
                  have l8 := K8.out.lt
                  have x8 := bk_set2w K8.out (.slice A1 i1.length a1) (.slice B1 s1.length b1)
                  have xb := below_set2w (g := gT) BB.out HBT.out (.slice A1 i1.length a1) (.slice B1 s1.length b1)
                  have yOL := OL.out.apart2 K8.out (by decide) (.slice A1 i1.length a1) (.slice B1 s1.length b1)
                  have yR1 := R1.out.apart2 K8.out (by decide) (.slice A1 i1.length a1) (.slice B1 s1.length b1)
                  obtain ⟨X3, hX⟩ : ∃ X, set2w V18 gT (.slice A1 i1.length a1) (.slice B1 s1.length b1) = X := ⟨_, rfl⟩
                  rw [hX] at x8 xb yOL yR1
                  unfold set2w at hX
                  have HX := Lib.hid hX
                  clear hX
                  go_upto_region 26 with fail
                  rw [HX.out]
                  clear HX k0 k1 lk f0 f1 q0 q1 l8 K18
                  replace K8 := Lib.hid x8
                  replace BB := Lib.hid xb
                  replace OL := Lib.hid yOL
                  replace R1 := Lib.hid yR1
                  clear x8 xb yOL yR1
                  go_wp2_with fail
                  go_loopw [20, 104] (fun u t wz => ∃ (k : Nat) (D : Option Addr) (d : Nat), k ≤ st.length ∧ t = .int .i64 k ∧ u = .slice D (butBt (st.take k) (i : Int)).length d ∧ Hid (OwnI 3 wz X3.heap.size D d (butBt (st.take k) (i : Int)) ∧ Below X3.heap.size X3 wz)) (fun _ t _ => st.length - (intOf t).toNat)
                  case atStart => exact ⟨0, none, 0, Nat.zero_le _, rfl, rfl, Lib.hid ⟨OwnI.nil_ _ _ _, Below.refl _ _⟩⟩
                  case round =>
                    rename World => WZ
                    obtain ⟨k3, D, d, hk3, rfl, rfl, OZ⟩ := hrel
                    by_cases hkn3 : k3 < st.length
                    · obtain ⟨bL, oL, eL, hbL, c0⟩ := (OL.out.ints.below OZ.out.2).at_bt hkn3
                      subst eL
                      have fz := OL.out.ints.fit_bt hkn3
                      have hnx := but_nextBt hkn3 (i : Int)
                      have hle := Nat.le_trans (but_lenBt (st.take k3) (i : Int)) (by rw [List.length_take]; exact Nat.min_le_left _ _)
                      have hsl := HSL.out
                      obtain ⟨z, hz⟩ : ∃ z, nth st k3 = z := ⟨_, rfl⟩
                      rw [hz] at c0 fz hnx
                      obtain ⟨bt, hbt⟩ : ∃ bt, butBt (st.take k3) (i : Int) = bt := ⟨_, rfl⟩
                      rw [hbt] at hnx hle OZ ⊢
                      by_cases he : z = (i : Int)
                      · rw [if_pos he] at hnx
                        have t0 : (z == (i : Int)) = true := by simpa using he
                        have HN := Lib.hid hnx
                        clear he hz hbt hnx fz
                        go_wp2_with fail
                        go_roundw
                        case rel => exact ⟨k3 + 1, D, d, by omega, by go_num, by rw [HN.out], Lib.hid (by rw [HN.out]; exact OZ.out)⟩
                        case measure => simp [intOf]; omega
                      · rw [if_neg he] at hnx
                        have t0 : (z == (i : Int)) = false := by simpa using he
                        have HN := Lib.hid hnx
                        have FZ := Lib.hid fz
                        clear he hz hbt hnx fz
                        go_wp2_with (at_builtin; refine wpList_append_ints _ rfl _ _ 22 rfl 3 Try.underlying22 Try.intInfo17 X3.heap.size D d bt bt.length rfl rfl (OZ.out.1.alloc _) (some ⟨WZ.heap.size, 0, none⟩) 1 1 [z] rfl (ints1 WZ 3 FZ.out) (by omega) (by simp; have := OZ.out.2.size; omega) ?_; intro D1 d1 w1 ho hg; have HO := Lib.hid ho; have HB := Lib.hid (app_wo OZ.out.1 OZ.out.2 hg); clear ho hg)
                        go_roundw
                        case rel => exact ⟨k3 + 1, D1, d1, by omega, by go_num, by rw [HN.out]; simp, Lib.hid (by rw [HN.out]; exact ⟨HO.out, HB.out⟩)⟩
                        case measure => simp [intOf]; omega
                    · have HE : Hid (butBt (st.take k3) (i : Int) = s1) := Lib.hid (by rw [List.take_of_length_le (by omega)]; exact HS1.out)
                      have HBX : Hid (w.heap.size ≤ X3.heap.size) := Lib.hid BB.out.size
                      go_wp2_with fail
                      go_roundw
                      case rel => exact ⟨k2 + 1, i1, s1, A1, a1, B1, b1, D, d, by omega, by go_num, by rw [HE.out], Lib.hid ⟨R1.out.below OZ.out.2, by rw [← HE.out]; exact OZ.out.1.base HBX.out, below3 BB.out OZ.out.2, K8.out.below OZ.out.2 K8.out.lt⟩, OK1⟩
                      case measure => simp [intOf]; omega
                · obtain rfl : k2 = nb := by omega
                  clear hk hkn HBO
                  have HL : Hid (st.length ≤ 64) := Lib.hid (by have := OK.out.1.2.2.2.1; have := many_all OK.out.1.2.1; have := OK.out.1.1; omega)
                  have hl64 := HL.out
                  have HND := Lib.hid (ok_nodup OK.out.1)
                  have e1 : IntKind.i64.wrap ((st.length : Int) - 1) = (st.length : Int) - 1 := by rw [IntKind.wrap_i64]; omega
                  go_wp2_with fail
                  clear e1
                  go_loopw [23] (fun u wr => ∃ (kk : Nat) (is sk : List Int) (A : Option Addr) (a : Nat) (B : Option Addr) (b : Nat), kk ≤ st.length ∧ u = .int .i64 ((kk : Int) - 1) ∧ Hid (OwnW wr w.heap.size A a B b is sk ∧ OwnI 3 wr w.heap.size L l st ∧ Below w.heap.size w wr ∧ Bk wr gT 24 #[.slice A is.length a, .slice B sk.length b]) ∧ Hid (okWo is sk ∧ sk = st.take kk)) (fun u _ => (intOf u + 1).toNat)
                  case atStart => exact ⟨st.length, is, st, A, a, B, b, Nat.le_refl _, rfl, OW, Lib.hid ⟨OK.out.1, by rw [List.take_length]⟩⟩
                  case round =>
                    clear OW OK
                    rename World => wr
                    obtain ⟨kk, is, sk, A, a, B, b, hkk, rfl, OW, OK⟩ := hrel
                    have K8 := Lib.hid OW.out.2.2.2
                    have BB := Lib.hid OW.out.2.2.1
                    have RD := Lib.hid OW.out.1
                    have OL := Lib.hid OW.out.2.1
                    clear OW
                    by_cases hk0 : 0 < kk
                    · obtain ⟨j, rfl⟩ : ∃ j, kk = j + 1 := ⟨kk - 1, by omega⟩
                      have hjl : j < st.length := by omega
                      have hsl : sk.length = j + 1 := by rw [OK.out.2, List.length_take]; omega
                      have hlast : nth sk (sk.length - 1) = nth st j := by rw [hsl, OK.out.2, show j + 1 - 1 = j by omega, nth_takeW (by omega)]
                      have hbut : butBt sk (nth st j) = st.take j := by rw [OK.out.2]; exact but_last HND.out hjl
                      have hok := OK.out.1
                      have hin := (last_in hok (by omega)).1
                      rw [hlast] at hin
                      obtain ⟨bL, oL, eL, hbL, c0⟩ := OL.out.ints.at_bt hjl
                      subst eL
                      have fz := OL.out.ints.fit_bt hjl
                      obtain ⟨v, hv⟩ : ∃ v, nth st j = v := ⟨_, rfl⟩
                      rw [hv] at hlast hbut hin c0 fz
                      obtain ⟨i, rfl⟩ := Int.eq_ofNat_of_zero_le hin.2.1
                      have hil : i < is.length := by have := hin.2.2; omega
                      have ok1 := ok_wake hok hil
                      have hW : wakeWo is sk = ((i : Int), is.set i 0, st.take j, 0) := by unfold wakeWo; rw [if_pos hok, if_neg (by omega), hlast, hbut, Int.toNat_natCast]
                      rw [hbut] at ok1
                      obtain ⟨i1, h1⟩ : ∃ l, is.set i 0 = l := ⟨_, rfl⟩
                      obtain ⟨s1, hs1⟩ : ∃ l, st.take j = l := ⟨_, rfl⟩
                      rw [h1, hs1] at hW ok1
                      have HW0 := Lib.hid hW
                      have OK1 : Hid (okWo i1 s1 ∧ s1 = st.take j) := Lib.hid ⟨ok1, hs1.symm⟩
                      have hcast : (((j + 1 : Nat) : Int)) - 1 = (j : Int) := by omega
                      rw [hcast]
                      have e1 : IntKind.i64.wrap ((j : Int) - 1) = (j : Int) - 1 := by rw [IntKind.wrap_i64]; omega
                      clear hlast hbut hok hin ok1 hW h1 hs1 hv hsl OK hcast hil fz
                      have t0 : decide (0 ≤ (j : Int)) = true := decide_eq_true (by omega)
                      obtain ⟨q0, q1⟩ := K8.out.c2w
                      have l8 := K8.out.lt
                      go_wp2_with fail
                      refine (wake_wo A B is.length a sk.length b is sk _ RD.out.i.ints RD.out.s.ints).mono ?_
                      rw [HW0.out]
                      try dsimp only
                      rintro e U ⟨A1, a1, B1, b1, he, ow, bU⟩
                      try dsimp only at he ow
                      subst he
                      clear q0 q1 l8
                      have c1 := (bU.cell (p := ⟨bL, oL + j, none⟩) hbL).trans c0
                      have hbL1 := Nat.lt_of_lt_of_le hbL bU.size
                      have HBS : Hid (w.heap.size ≤ wr.heap.size) := Lib.hid BB.out.size
                      replace K8 := Lib.hid (K8.out.below bU K8.out.lt)
                      replace BB := Lib.hid (below3 BB.out bU)
                      replace OL := Lib.hid (OL.out.below bU)
                      have R1 := Lib.hid (ow.base_ HBS.out)
                      clear ow bU RD HW0 HBS c0
                      have kt := Bk.new U 24 #[.slice A1 i1.length a1, .slice B1 s1.length b1]
                      have ba := (Below.refl U.heap.size U).alloc (Nat.le_refl _) (.cells #[.slice A1 i1.length a1, .slice B1 s1.length b1] 24)
                      replace c1 := (ba.cell (p := ⟨bL, oL + j, none⟩) hbL1).trans c1
                      replace hbL1 := Nat.lt_of_lt_of_le hbL1 ba.size
                      replace K8 := Lib.hid (K8.out.below ba K8.out.lt)
                      replace BB := Lib.hid (below3 BB.out ba)
                      replace OL := Lib.hid (OL.out.below ba)
                      replace R1 := Lib.hid (R1.out.below ba)
                      obtain ⟨V25, hW⟩ : ∃ W, U.alloc (.cells #[.slice A1 i1.length a1, .slice B1 s1.length b1] 24) = W := ⟨_, rfl⟩
                      obtain ⟨g25, hg⟩ : ∃ g, U.heap.size = g := ⟨_, rfl⟩
                      rw [hW] at c1 hbL1 kt K8 BB OL R1
                      rw [hg] at kt
                      have K25 := Lib.hid kt
                      have HW := Lib.hid hW
                      have HG := Lib.hid hg
                      clear hW hg kt ba
                      go_upto_region 39 with fail
                      rw [HW.out]
                      try rw [HG.out]
                      clear HW HG
                      go_upto_region 41 with fail
                      clear c1 hbL1
                      obtain ⟨k0, k1⟩ := K25.out.c2w
                      have lk := K25.out.lt
                      obtain ⟨f0, f1⟩ := K8.out.f2w
                      obtain ⟨q0, q1⟩ := K8.out.c2w
                      have l8 := K8.out.lt
                      have x8 := bk_set2w K8.out (.slice A1 i1.length a1) (.slice B1 s1.length b1)
                      have xb := below_set2w (g := gT) BB.out HBT.out (.slice A1 i1.length a1) (.slice B1 s1.length b1)
                      have yOL := OL.out.apart2 K8.out (by decide) (.slice A1 i1.length a1) (.slice B1 s1.length b1)
                      have yR1 := R1.out.apart2 K8.out (by decide) (.slice A1 i1.length a1) (.slice B1 s1.length b1)
                      obtain ⟨X3, hX⟩ : ∃ X, set2w V25 gT (.slice A1 i1.length a1) (.slice B1 s1.length b1) = X := ⟨_, rfl⟩
                      rw [hX] at x8 xb yOL yR1
                      unfold set2w at hX
                      have HX := Lib.hid hX
                      clear hX
                      go_upto_region 37 with fail
                      rw [HX.out]
                      clear HX k0 k1 lk f0 f1 q0 q1 l8 K25
                      replace K8 := Lib.hid x8
                      replace BB := Lib.hid xb
                      replace OL := Lib.hid yOL
                      replace R1 := Lib.hid yR1
                      clear x8 xb yOL yR1
                      go_wp2_with fail
                      go_roundw
                      case rel => exact ⟨j, i1, s1, A1, a1, B1, b1, by omega, rfl, Lib.hid ⟨R1.out, OL.out, BB.out, K8.out⟩, OK1⟩
                      case measure => simp [intOf]
                    · obtain rfl : kk = 0 := by omega
                      have hs0 : sk.length = 0 := by rw [OK.out.2]; simp
                      have hW : wakeWo is sk = (0, [], [], 5) := by unfold wakeWo; rw [if_pos OK.out.1, if_pos hs0]
                      have HW0 := Lib.hid hW
                      clear hW hs0 OK
                      have t0 : decide ((0 : Int) ≤ ((0 : Nat) : Int) - 1) = false := rfl
                      obtain ⟨q0, q1⟩ := K8.out.c2w
                      have l8 := K8.out.lt
                      go_wp2_with fail
                      refine (wake_wo A B is.length a sk.length b is sk _ RD.out.i.ints RD.out.s.ints).mono ?_
                      rw [HW0.out]
                      try dsimp only
                      rintro e U ⟨A1, a1, B1, b1, he, ow, bU⟩
                      try dsimp only at he ow
                      subst he
                      clear q0 q1 l8
                      have B2 := Lib.hid ((below3 BB.out bU).alloc (Nat.le_trans BB.out.size bU.size) (.cells #[.slice A1 0 a1, .slice B1 0 b1] 24))
                      clear ow bU
                      go_wp2_with fail
                      go_ret
                      exact ⟨rfl, B2.out⟩

end Go.Proofs.Ytmndkofdoclihaa

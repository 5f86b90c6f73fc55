import Derived.Test.YtfhlligcbpnkkaaDoorMg26
import Derived.Deep.RegionHeld3
import Derived.OrdersHeld
import Derived.BigRegion
import Derived.Test.YtfhlligcbpnkkaaDoorMg16
import Derived.Test.YtfhlligcbpnkkaaDoorMg5
import Derived.StillTailTactics
import Derived.Test.YtfhlligcbpnkkaaDoorMg10

/-
  Layer 18, the document: Check.
-/
namespace Go.Proofs.YtfhlligcbpnkkaaDoor
open Go.RowKit

set_option maxRecDepth 100000 in
set_option maxHeartbeats 8000000 in
theorem check_tr (F A : Option Addr) (np cp n c : Nat) (P : List (List I3)) (l : List I3) (w : World) (hn24 : n * 24 ≤ 140737488351232) (hP : Prgs w F np P) (hl : Prog w A n c l) :
    Calls Tryd.prog 12 #[.slice F np cp, .slice A n c] w (RetB (.tuple #[.int .i64 (chkT P l).1, .int .i64 (chkT P l).2]) w) := by
  have HPP := Lib.hid hP
  have HL := Lib.hid hl
  have LX := Lib.hid hl.1
  have hnc := hl.2.1
  have HN24 := Lib.hid hn24
  clear hP hl hn24
  by_cases hE : errL P = 0
  · by_cases g1 : 65536 < n
    · rw [chkT_no (fun q => by have := q.2; have := LX.out; omega)]
      have HE := Lib.hid hE
      have t0 : decide (65536 < (n : Int)) = true := decide_eq_true (by omega)
      clear hE
      go_enter Tryd.func12, Tryd.ntmps12
      go_wp2_with fail
      refine (rcheckAll_any F np cp P _ HPP.out).mono ?_
      rw [HE.out]
      rintro e U ⟨rfl, bU⟩
      have BB := Lib.hid bU
      clear bU
      go_wp2_with fail
      exact bodyPost_ret (results_tmp2 rfl _ _ _) rfl (by exact ⟨rfl, BB.out⟩)
    · rw [chkT_ok ⟨hE, by have := LX.out; omega⟩]
      have HOK : Hid (okL P) := Lib.hid (Classical.byContradiction fun q => by rw [errL_no q] at hE; cases hE)
      have HE := Lib.hid hE
      have t0 : decide (65536 < (n : Int)) = false := decide_eq_false (by omega)
      have hn6 : n ≤ 65536 := by omega
      clear hE
      go_enter Tryd.func12, Tryd.ntmps12
      go_wp2_with fail
      refine (rcheckAll_any F np cp P _ HPP.out).mono ?_
      rw [HE.out]
      rintro e U ⟨rfl, bU⟩
      have BB := Lib.hid bU
      clear bU
      go_wp2_with fail
      go_loopw [20] (fun t wr => ∃ k : Nat, k ≤ n ∧ t = .int .i64 k ∧ Hid (Below w.heap.size w wr) ∧ Hid (∀ j, j < k → mayT P l j = true)) (fun t _ => n - (intOf t).toNat)
      case atStart => exact ⟨0, Nat.zero_le _, rfl, BB, Lib.hid fun j hj => by omega⟩
      case round =>
        clear BB
        rename World => wr
        obtain ⟨k, hk, rfl, BB, OK⟩ := hrel
        by_cases hkn : k < n
        · obtain ⟨b, o, rfl, hb, c0, c1, c2⟩ := (HL.out.below BB.out).at_ hkn
          have hkl : k < l.length := by rw [LX.out]; exact hkn
          obtain ⟨⟨kd, xi, xa⟩, hz⟩ : ∃ e, ith l k = e := ⟨_, rfl⟩
          rw [show jO l k = kd by unfold jO; rw [hz]] at c0
          rw [show jA l k = xi by unfold jA; rw [hz]] at c1
          rw [show jB l k = xa by unfold jB; rw [hz]] at c2
          obtain ⟨m, hm⟩ : ∃ m, ofR (l.take (k + 1)) xi = m := ⟨_, rfl⟩
          have hmay : mayT P l k = (oneT P m).isSome := by unfold mayT; rw [hz]; dsimp only; rw [hm]
          have HMAY := Lib.hid hmay
          have HM := Lib.hid hm
          clear hz hm hmay
          have e1 : IntKind.i64.wrap ((k : Int) + 1) = ((k + 1 : Nat) : Int) := by rw [IntKind.wrap_i64]; omega
          have ek1 : k + 1 ≤ c := by omega
          have hcs : ¬ (0 ≤ (k : Int) + 1 → (c : Int) < (k : Int) + 1) := by omega
          obtain ⟨bv, hbv⟩ : ∃ bv, (oneT P m).isSome = bv := ⟨_, rfl⟩
          have HBV := Lib.hid hbv
          replace HMAY := Lib.hid (HMAY.out.trans hbv)
          clear hbv
          have kt := Bk.new wr 41 #[.int .i64 kd, .int .i64 xi, .int .i64 xa]
          have ba := (Below.refl wr.heap.size wr).alloc (Nat.le_refl _) (.cells #[.int .i64 kd, .int .i64 xi, .int .i64 xa] 41)
          replace BB := Lib.hid (below3 BB.out ba)
          obtain ⟨W, hW⟩ : ∃ W, wr.alloc (.cells #[.int .i64 kd, .int .i64 xi, .int .i64 xa] 41) = W := ⟨_, rfl⟩
          obtain ⟨g7, hg⟩ : ∃ g, wr.heap.size = g := ⟨_, rfl⟩
          rw [hW] at kt BB
          rw [hg] at kt
          have HW := Lib.hid hW
          have HG := Lib.hid hg
          have K7 := Lib.hid kt
          clear hW hg kt ba
          go_upto_region 6 with fail
          rw [HW.out, HG.out]
          clear HW HG c0 c1 c2 hb
          have q1 := K7.out.cell 1
          have l7 := K7.out.lt
          refine wp_region_held (S := fun U => U.cell? ⟨g7, 1, none⟩ = some (.int .i64 xi)) (by kernel_rfl) ?_
          change wpAnyH _ _ _ _ _ _ _ _ (World.drew _)
          have bd := (Below.refl W.heap.size W).drew
          replace K7 := Lib.hid (K7.out.below bd K7.out.lt)
          replace BB := Lib.hid (below3 BB.out bd)
          clear bd q1 l7
          obtain ⟨W0, hW⟩ : ∃ W0, W.drew = W0 := ⟨_, rfl⟩
          rw [hW] at K7 BB ⊢
          clear hW
          have h0 : W0.cell? ⟨g7, 1, none⟩ = some (.int .i64 xi) := K7.out.cell 1
          refine wpAnyH_take (i := 0) (v := .slice F np cp) rfl (by kernel_rfl) (by kernel_rfl) (by kernel_rfl) (fun _ _ _ h => h) (.inl ⟨by rfl, fun U hU => by go_simp⟩) h0 ?_
          refine wpAnyH_take (i := 1) (v := .slice (some ⟨b, o, none⟩) n c) rfl (by kernel_rfl) (by kernel_rfl) (by kernel_rfl) (fun _ _ _ h => h) (.inl ⟨by rfl, fun U hU => by go_simp⟩) h0 ?_
          refine wpAnyH_take (i := 2) (v := .int .i64 (k : Int)) rfl (by kernel_rfl) (by kernel_rfl) (by kernel_rfl) (fun _ _ _ h => h) (.inl ⟨by rfl, fun U hU => by go_simp⟩) h0 ?_
          refine wpAnyH_take (i := 3) (v := .int .i64 ((k + 1 : Nat) : Int)) rfl (by kernel_rfl) (by kernel_rfl) (by kernel_rfl) (fun _ _ _ h => h) (.inl ⟨by rfl, fun U hU => by go_simp⟩) h0 ?_
          refine wpAnyH_take (i := 4) (v := .slice (some ⟨b, o, none⟩) (k + 1) c) rfl (by kernel_rfl) (by kernel_rfl) (by kernel_rfl) (fun _ _ _ h => h) (.inl ⟨by rfl, fun U hU => by go_simp⟩) h0 ?_
          refine wpAnyH_take (i := 5) (v := .pointer (some ⟨g7, 1, none⟩)) rfl (by kernel_rfl) (by kernel_rfl) (by kernel_rfl) (fun _ _ _ h => h) (.inl ⟨by rfl, fun U hU => by go_simp⟩) h0 ?_
          refine wpAnyH_take (i := 6) (v := .int .i64 xi) rfl (by kernel_rfl) (by kernel_rfl) (by kernel_rfl) (fun _ _ _ h => h) (.inl ⟨by rfl, fun U hU => by go_simp⟩) h0 ?_
          refine wpAnyH_all (rs := [7, 12]) (by kernel_rfl) (by simp) ?_
          intro q hq
          simp only [List.mem_cons, List.not_mem_nil, or_false] at hq
          rcases hq with rfl | rfl
          · unfold wpOp
            go_simp
            left
            refine (of_tr (some ⟨b, o, none⟩) (k + 1) c (l.take (k + 1)) xi _ (by have := HN24.out; omega) ((HL.out.below BB.out).take hkn)).mono ?_
            rw [HM.out]
            rintro e U1 ⟨D, d, rfl, ow, bU⟩
            replace K7 := Lib.hid (K7.out.below bU K7.out.lt)
            replace BB := Lib.hid (below3 BB.out bU)
            have OD := Lib.hid ow.prog
            clear ow
            have h1 := K7.out.cell 1
            refine ⟨h1, ?_⟩
            refine wpAnyH_all (rs := [8, 12]) (by kernel_rfl) (by simp) ?_
            intro q hq
            simp only [List.mem_cons, List.not_mem_nil, or_false] at hq
            rcases hq with rfl | rfl
            · unfold wpOp
              go_simp
              left
              refine (one_tr F D np cp m.length d P m _ HOK.out (HPP.out.below BB.out) OD.out).mono ?_
              unfold OneP
              rw [HBV.out]
              rintro e U2 ⟨T, rfl, -, bU⟩
              replace K7 := Lib.hid (K7.out.below bU K7.out.lt)
              replace BB := Lib.hid (below3 BB.out bU)
              obtain ⟨id, tn, pg, pc, un, k0, k1, k2, k3, st, rn⟩ := T
              dsimp only [tc]
              replace h1 := K7.out.cell 1
              refine ⟨h1, ?_⟩
              refine wpAnyH_take (i := 9) (v := .tuple #[.agg #[.int .i64 id, .int .i64 tn, .int .i64 pg, .int .i64 pc, .int .i64 un, .int .i64 k0, .int .i64 k1, .int .i64 k2, .int .i64 k3, .int .i64 st, .int .i64 rn], .bool bv]) rfl (by kernel_rfl) (by kernel_rfl) (by kernel_rfl) (fun _ _ _ h => h) (.inl ⟨by rfl, fun U hU => by go_simp⟩) h1 ?_
              refine wpAnyH_take (i := 10) (v := .agg #[.int .i64 id, .int .i64 tn, .int .i64 pg, .int .i64 pc, .int .i64 un, .int .i64 k0, .int .i64 k1, .int .i64 k2, .int .i64 k3, .int .i64 st, .int .i64 rn]) rfl (by kernel_rfl) (by kernel_rfl) (by kernel_rfl) (fun _ _ _ h => h) (.inl ⟨by rfl, fun U hU => by go_simp⟩) h1 ?_
              refine wpAnyH_take (i := 11) (v := .bool bv) rfl (by kernel_rfl) (by kernel_rfl) (by kernel_rfl) (fun _ _ _ h => h) (.inl ⟨by rfl, fun U hU => by go_simp⟩) h1 ?_
              refine wpAnyH_all (rs := [12]) (by kernel_rfl) (by simp) ?_
              intro q hq
              simp only [List.mem_cons, List.not_mem_nil, or_false] at hq
              subst hq
              unfold wpOp
              go_simp
              left
              have kt := Bk.new U2 44 #[.int .i64 0, .int .i64 0, .int .i64 0, .int .i64 0, .int .i64 0, .int .i64 0, .int .i64 0, .int .i64 0, .int .i64 0, .int .i64 0, .int .i64 0]
              have ba := (Below.refl U2.heap.size U2).alloc (Nat.le_refl _) (.cells #[.int .i64 0, .int .i64 0, .int .i64 0, .int .i64 0, .int .i64 0, .int .i64 0, .int .i64 0, .int .i64 0, .int .i64 0, .int .i64 0, .int .i64 0] 44)
              have net := Nat.ne_of_lt K7.out.lt
              have hgb := BB.out.size
              replace K7 := Lib.hid (K7.out.below ba K7.out.lt)
              replace BB := Lib.hid (below3 BB.out ba)
              obtain ⟨W2, hW⟩ : ∃ W, U2.alloc (.cells #[.int .i64 0, .int .i64 0, .int .i64 0, .int .i64 0, .int .i64 0, .int .i64 0, .int .i64 0, .int .i64 0, .int .i64 0, .int .i64 0, .int .i64 0] 44) = W := ⟨_, rfl⟩
              obtain ⟨g8, hg⟩ : ∃ g, U2.heap.size = g := ⟨_, rfl⟩
              rw [hW] at kt K7 BB  ⊢
              try rw [hg]
              rw [hg] at kt net hgb
              have K8 := Lib.hid kt
              have NET := Lib.hid net
              have HGB := Lib.hid hgb
              clear hW hg kt net hgb ba
              refine ⟨K7.out.cell 1, ?_⟩
              have x8 := bk_set11 K8.out (.int .i64 id) (.int .i64 tn) (.int .i64 pg) (.int .i64 pc) (.int .i64 un) (.int .i64 k0) (.int .i64 k1) (.int .i64 k2) (.int .i64 k3) (.int .i64 st) (.int .i64 rn)
              have xb := below_set11 (g := g8) BB.out HGB.out (.int .i64 id) (.int .i64 tn) (.int .i64 pg) (.int .i64 pc) (.int .i64 un) (.int .i64 k0) (.int .i64 k1) (.int .i64 k2) (.int .i64 k3) (.int .i64 st) (.int .i64 rn)
              have x7 := far_set11 K7.out NET.out (.int .i64 id) (.int .i64 tn) (.int .i64 pg) (.int .i64 pc) (.int .i64 un) (.int .i64 k0) (.int .i64 k1) (.int .i64 k2) (.int .i64 k3) (.int .i64 st) (.int .i64 rn)
              obtain ⟨ff0, ff1, ff2, ff3, ff4, ff5, ff6, ff7, ff8, ff9, ff10⟩ := K8.out.f11
              obtain ⟨qq0, qq1, qq2, qq3, qq4, qq5, qq6, qq7, qq8, qq9, qq10⟩ := K8.out.c11
              have l8 := K8.out.lt
              have c7 := K7.out.cell 1
              have n7 := NET.out
              obtain ⟨X, hX⟩ : ∃ X, set11 W2 g8 (.int .i64 id) (.int .i64 tn) (.int .i64 pg) (.int .i64 pc) (.int .i64 un) (.int .i64 k0) (.int .i64 k1) (.int .i64 k2) (.int .i64 k3) (.int .i64 st) (.int .i64 rn) = X := ⟨_, rfl⟩
              rw [hX] at x8 xb x7
              unfold set11 at hX
              have HX := Lib.hid hX
              clear hX
              refine wpAnyH_all (rs := [13]) (by kernel_rfl) (by simp) ?_
              intro q hq
              simp only [List.mem_cons, List.not_mem_nil, or_false] at hq
              subst hq
              unfold wpOp
              go_simp
              left
              rw [HX.out]
              have BF := Lib.hid xb
              have h3 : X.cell? ⟨g7, 1, none⟩ = some (.int .i64 xi) := x7.cell 1
              clear x8 xb x7 HX c7 n7 l8 ff0 qq0 ff1 qq1 ff2 qq2 ff3 qq3 ff4 qq4 ff5 qq5 ff6 qq6 ff7 qq7 ff8 qq8 ff9 qq9 ff10 qq10
              refine wpAnyH_take (i := 14) (v := .bool bv) rfl (by kernel_rfl) (by kernel_rfl) (by kernel_rfl) (fun _ _ _ h => h) (.inl ⟨by rfl, fun U hU => by go_simp⟩) h3 ?_
              refine wpAnyH_done (by kernel_rfl) ?_ _
              clear h3
              cases bv
              · have HB : Hid (badT P l = k) := Lib.hid (badT_of (by omega) (fun j hj => OK.out j hj) (fun _ => HMAY.out))
                go_wp2_with fail
                exact bodyPost_ret (results_tmp2 rfl _ _ _) rfl (by exact ⟨by rw [HB.out]; rfl, BF.out⟩)
              · have OK2 : Hid (∀ j, j < k + 1 → mayT P l j = true) := Lib.hid fun j hj => by
                  by_cases e : j = k
                  · subst e; exact HMAY.out
                  · exact OK.out j (by omega)
                go_wp2_with fail
                go_roundw
                case rel => exact ⟨k + 1, by omega, by go_num, BF, OK2⟩
                case measure => simp [intOf]; omega
            · unfold wpOp
              go_simp
              left
              have kt := Bk.new U1 44 #[.int .i64 0, .int .i64 0, .int .i64 0, .int .i64 0, .int .i64 0, .int .i64 0, .int .i64 0, .int .i64 0, .int .i64 0, .int .i64 0, .int .i64 0]
              have ba := (Below.refl U1.heap.size U1).alloc (Nat.le_refl _) (.cells #[.int .i64 0, .int .i64 0, .int .i64 0, .int .i64 0, .int .i64 0, .int .i64 0, .int .i64 0, .int .i64 0, .int .i64 0, .int .i64 0, .int .i64 0] 44)
              have net := Nat.ne_of_lt K7.out.lt
              have hgb := BB.out.size
              replace K7 := Lib.hid (K7.out.below ba K7.out.lt)
              replace BB := Lib.hid (below3 BB.out ba)
              replace OD := Lib.hid (OD.out.below ba)
              obtain ⟨W2, hW⟩ : ∃ W, U1.alloc (.cells #[.int .i64 0, .int .i64 0, .int .i64 0, .int .i64 0, .int .i64 0, .int .i64 0, .int .i64 0, .int .i64 0, .int .i64 0, .int .i64 0, .int .i64 0] 44) = W := ⟨_, rfl⟩
              obtain ⟨g8, hg⟩ : ∃ g, U1.heap.size = g := ⟨_, rfl⟩
              rw [hW] at kt K7 BB OD ⊢
              try rw [hg]
              rw [hg] at kt net hgb
              have K8 := Lib.hid kt
              have NET := Lib.hid net
              have HGB := Lib.hid hgb
              clear hW hg kt net hgb ba
              replace h1 := K7.out.cell 1
              refine ⟨h1, ?_⟩
              refine wpAnyH_all (rs := [8]) (by kernel_rfl) (by simp) ?_
              intro q hq
              simp only [List.mem_cons, List.not_mem_nil, or_false] at hq
              subst hq
              unfold wpOp
              go_simp
              left
              refine (one_tr F D np cp m.length d P m _ HOK.out (HPP.out.below BB.out) OD.out).mono ?_
              unfold OneP
              rw [HBV.out]
              rintro e U2 ⟨T, rfl, -, bU⟩
              replace K7 := Lib.hid (K7.out.below bU K7.out.lt)
              replace BB := Lib.hid (below3 BB.out bU)
              obtain ⟨id, tn, pg, pc, un, k0, k1, k2, k3, st, rn⟩ := T
              dsimp only [tc]
              replace K8 := Lib.hid (K8.out.below bU K8.out.lt)
              replace h1 := K7.out.cell 1
              refine ⟨h1, ?_⟩
              refine wpAnyH_take (i := 9) (v := .tuple #[.agg #[.int .i64 id, .int .i64 tn, .int .i64 pg, .int .i64 pc, .int .i64 un, .int .i64 k0, .int .i64 k1, .int .i64 k2, .int .i64 k3, .int .i64 st, .int .i64 rn], .bool bv]) rfl (by kernel_rfl) (by kernel_rfl) (by kernel_rfl) (fun _ _ _ h => h) (.inl ⟨by rfl, fun U hU => by go_simp⟩) h1 ?_
              refine wpAnyH_take (i := 10) (v := .agg #[.int .i64 id, .int .i64 tn, .int .i64 pg, .int .i64 pc, .int .i64 un, .int .i64 k0, .int .i64 k1, .int .i64 k2, .int .i64 k3, .int .i64 st, .int .i64 rn]) rfl (by kernel_rfl) (by kernel_rfl) (by kernel_rfl) (fun _ _ _ h => h) (.inl ⟨by rfl, fun U hU => by go_simp⟩) h1 ?_
              refine wpAnyH_take (i := 11) (v := .bool bv) rfl (by kernel_rfl) (by kernel_rfl) (by kernel_rfl) (fun _ _ _ h => h) (.inl ⟨by rfl, fun U hU => by go_simp⟩) h1 ?_
              have x8 := bk_set11 K8.out (.int .i64 id) (.int .i64 tn) (.int .i64 pg) (.int .i64 pc) (.int .i64 un) (.int .i64 k0) (.int .i64 k1) (.int .i64 k2) (.int .i64 k3) (.int .i64 st) (.int .i64 rn)
              have xb := below_set11 (g := g8) BB.out HGB.out (.int .i64 id) (.int .i64 tn) (.int .i64 pg) (.int .i64 pc) (.int .i64 un) (.int .i64 k0) (.int .i64 k1) (.int .i64 k2) (.int .i64 k3) (.int .i64 st) (.int .i64 rn)
              have x7 := far_set11 K7.out NET.out (.int .i64 id) (.int .i64 tn) (.int .i64 pg) (.int .i64 pc) (.int .i64 un) (.int .i64 k0) (.int .i64 k1) (.int .i64 k2) (.int .i64 k3) (.int .i64 st) (.int .i64 rn)
              obtain ⟨ff0, ff1, ff2, ff3, ff4, ff5, ff6, ff7, ff8, ff9, ff10⟩ := K8.out.f11
              obtain ⟨qq0, qq1, qq2, qq3, qq4, qq5, qq6, qq7, qq8, qq9, qq10⟩ := K8.out.c11
              have l8 := K8.out.lt
              have c7 := K7.out.cell 1
              have n7 := NET.out
              obtain ⟨X, hX⟩ : ∃ X, set11 U2 g8 (.int .i64 id) (.int .i64 tn) (.int .i64 pg) (.int .i64 pc) (.int .i64 un) (.int .i64 k0) (.int .i64 k1) (.int .i64 k2) (.int .i64 k3) (.int .i64 st) (.int .i64 rn) = X := ⟨_, rfl⟩
              rw [hX] at x8 xb x7
              unfold set11 at hX
              have HX := Lib.hid hX
              clear hX
              refine wpAnyH_all (rs := [13]) (by kernel_rfl) (by simp) ?_
              intro q hq
              simp only [List.mem_cons, List.not_mem_nil, or_false] at hq
              subst hq
              unfold wpOp
              go_simp
              left
              rw [HX.out]
              have BF := Lib.hid xb
              have h3 : X.cell? ⟨g7, 1, none⟩ = some (.int .i64 xi) := x7.cell 1
              clear x8 xb x7 HX c7 n7 l8 ff0 qq0 ff1 qq1 ff2 qq2 ff3 qq3 ff4 qq4 ff5 qq5 ff6 qq6 ff7 qq7 ff8 qq8 ff9 qq9 ff10 qq10
              refine wpAnyH_take (i := 14) (v := .bool bv) rfl (by kernel_rfl) (by kernel_rfl) (by kernel_rfl) (fun _ _ _ h => h) (.inl ⟨by rfl, fun U hU => by go_simp⟩) h3 ?_
              refine wpAnyH_done (by kernel_rfl) ?_ _
              clear h3
              cases bv
              · have HB : Hid (badT P l = k) := Lib.hid (badT_of (by omega) (fun j hj => OK.out j hj) (fun _ => HMAY.out))
                go_wp2_with fail
                exact bodyPost_ret (results_tmp2 rfl _ _ _) rfl (by exact ⟨by rw [HB.out]; rfl, BF.out⟩)
              · have OK2 : Hid (∀ j, j < k + 1 → mayT P l j = true) := Lib.hid fun j hj => by
                  by_cases e : j = k
                  · subst e; exact HMAY.out
                  · exact OK.out j (by omega)
                go_wp2_with fail
                go_roundw
                case rel => exact ⟨k + 1, by omega, by go_num, BF, OK2⟩
                case measure => simp [intOf]; omega
          · unfold wpOp
            go_simp
            left
            have kt := Bk.new W0 44 #[.int .i64 0, .int .i64 0, .int .i64 0, .int .i64 0, .int .i64 0, .int .i64 0, .int .i64 0, .int .i64 0, .int .i64 0, .int .i64 0, .int .i64 0]
            have ba := (Below.refl W0.heap.size W0).alloc (Nat.le_refl _) (.cells #[.int .i64 0, .int .i64 0, .int .i64 0, .int .i64 0, .int .i64 0, .int .i64 0, .int .i64 0, .int .i64 0, .int .i64 0, .int .i64 0, .int .i64 0] 44)
            have net := Nat.ne_of_lt K7.out.lt
            have hgb := BB.out.size
            replace K7 := Lib.hid (K7.out.below ba K7.out.lt)
            replace BB := Lib.hid (below3 BB.out ba)
            obtain ⟨W2, hW⟩ : ∃ W, W0.alloc (.cells #[.int .i64 0, .int .i64 0, .int .i64 0, .int .i64 0, .int .i64 0, .int .i64 0, .int .i64 0, .int .i64 0, .int .i64 0, .int .i64 0, .int .i64 0] 44) = W := ⟨_, rfl⟩
            obtain ⟨g8, hg⟩ : ∃ g, W0.heap.size = g := ⟨_, rfl⟩
            rw [hW] at kt K7 BB  ⊢
            try rw [hg]
            rw [hg] at kt net hgb
            have K8 := Lib.hid kt
            have NET := Lib.hid net
            have HGB := Lib.hid hgb
            clear hW hg kt net hgb ba
            have h1 := K7.out.cell 1
            refine ⟨h1, ?_⟩
            refine wpAnyH_all (rs := [7]) (by kernel_rfl) (by simp) ?_
            intro q hq
            simp only [List.mem_cons, List.not_mem_nil, or_false] at hq
            subst hq
            unfold wpOp
            go_simp
            left
            refine (of_tr (some ⟨b, o, none⟩) (k + 1) c (l.take (k + 1)) xi _ (by have := HN24.out; omega) ((HL.out.below BB.out).take hkn)).mono ?_
            rw [HM.out]
            rintro e U1 ⟨D, d, rfl, ow, bU⟩
            replace K7 := Lib.hid (K7.out.below bU K7.out.lt)
            replace BB := Lib.hid (below3 BB.out bU)
            have OD := Lib.hid ow.prog
            clear ow
            replace K8 := Lib.hid (K8.out.below bU K8.out.lt)
            clear bU
            replace h1 := K7.out.cell 1
            refine ⟨h1, ?_⟩
            refine wpAnyH_all (rs := [8]) (by kernel_rfl) (by simp) ?_
            intro q hq
            simp only [List.mem_cons, List.not_mem_nil, or_false] at hq
            subst hq
            unfold wpOp
            go_simp
            left
            refine (one_tr F D np cp m.length d P m _ HOK.out (HPP.out.below BB.out) OD.out).mono ?_
            unfold OneP
            rw [HBV.out]
            rintro e U2 ⟨T, rfl, -, bU⟩
            replace K7 := Lib.hid (K7.out.below bU K7.out.lt)
            replace BB := Lib.hid (below3 BB.out bU)
            obtain ⟨id, tn, pg, pc, un, k0, k1, k2, k3, st, rn⟩ := T
            dsimp only [tc]
            replace K8 := Lib.hid (K8.out.below bU K8.out.lt)
            replace h1 := K7.out.cell 1
            refine ⟨h1, ?_⟩
            refine wpAnyH_take (i := 9) (v := .tuple #[.agg #[.int .i64 id, .int .i64 tn, .int .i64 pg, .int .i64 pc, .int .i64 un, .int .i64 k0, .int .i64 k1, .int .i64 k2, .int .i64 k3, .int .i64 st, .int .i64 rn], .bool bv]) rfl (by kernel_rfl) (by kernel_rfl) (by kernel_rfl) (fun _ _ _ h => h) (.inl ⟨by rfl, fun U hU => by go_simp⟩) h1 ?_
            refine wpAnyH_take (i := 10) (v := .agg #[.int .i64 id, .int .i64 tn, .int .i64 pg, .int .i64 pc, .int .i64 un, .int .i64 k0, .int .i64 k1, .int .i64 k2, .int .i64 k3, .int .i64 st, .int .i64 rn]) rfl (by kernel_rfl) (by kernel_rfl) (by kernel_rfl) (fun _ _ _ h => h) (.inl ⟨by rfl, fun U hU => by go_simp⟩) h1 ?_
            refine wpAnyH_take (i := 11) (v := .bool bv) rfl (by kernel_rfl) (by kernel_rfl) (by kernel_rfl) (fun _ _ _ h => h) (.inl ⟨by rfl, fun U hU => by go_simp⟩) h1 ?_
            have x8 := bk_set11 K8.out (.int .i64 id) (.int .i64 tn) (.int .i64 pg) (.int .i64 pc) (.int .i64 un) (.int .i64 k0) (.int .i64 k1) (.int .i64 k2) (.int .i64 k3) (.int .i64 st) (.int .i64 rn)
            have xb := below_set11 (g := g8) BB.out HGB.out (.int .i64 id) (.int .i64 tn) (.int .i64 pg) (.int .i64 pc) (.int .i64 un) (.int .i64 k0) (.int .i64 k1) (.int .i64 k2) (.int .i64 k3) (.int .i64 st) (.int .i64 rn)
            have x7 := far_set11 K7.out NET.out (.int .i64 id) (.int .i64 tn) (.int .i64 pg) (.int .i64 pc) (.int .i64 un) (.int .i64 k0) (.int .i64 k1) (.int .i64 k2) (.int .i64 k3) (.int .i64 st) (.int .i64 rn)
            obtain ⟨ff0, ff1, ff2, ff3, ff4, ff5, ff6, ff7, ff8, ff9, ff10⟩ := K8.out.f11
            obtain ⟨qq0, qq1, qq2, qq3, qq4, qq5, qq6, qq7, qq8, qq9, qq10⟩ := K8.out.c11
            have l8 := K8.out.lt
            have c7 := K7.out.cell 1
            have n7 := NET.out
            obtain ⟨X, hX⟩ : ∃ X, set11 U2 g8 (.int .i64 id) (.int .i64 tn) (.int .i64 pg) (.int .i64 pc) (.int .i64 un) (.int .i64 k0) (.int .i64 k1) (.int .i64 k2) (.int .i64 k3) (.int .i64 st) (.int .i64 rn) = X := ⟨_, rfl⟩
            rw [hX] at x8 xb x7
            unfold set11 at hX
            have HX := Lib.hid hX
            clear hX
            refine wpAnyH_all (rs := [13]) (by kernel_rfl) (by simp) ?_
            intro q hq
            simp only [List.mem_cons, List.not_mem_nil, or_false] at hq
            subst hq
            unfold wpOp
            go_simp
            left
            rw [HX.out]
            have BF := Lib.hid xb
            have h3 : X.cell? ⟨g7, 1, none⟩ = some (.int .i64 xi) := x7.cell 1
            clear x8 xb x7 HX c7 n7 l8 ff0 qq0 ff1 qq1 ff2 qq2 ff3 qq3 ff4 qq4 ff5 qq5 ff6 qq6 ff7 qq7 ff8 qq8 ff9 qq9 ff10 qq10
            refine wpAnyH_take (i := 14) (v := .bool bv) rfl (by kernel_rfl) (by kernel_rfl) (by kernel_rfl) (fun _ _ _ h => h) (.inl ⟨by rfl, fun U hU => by go_simp⟩) h3 ?_
            refine wpAnyH_done (by kernel_rfl) ?_ _
            clear h3
            cases bv
            · have HB : Hid (badT P l = k) := Lib.hid (badT_of (by omega) (fun j hj => OK.out j hj) (fun _ => HMAY.out))
              go_wp2_with fail
              exact bodyPost_ret (results_tmp2 rfl _ _ _) rfl (by exact ⟨by rw [HB.out]; rfl, BF.out⟩)
            · have OK2 : Hid (∀ j, j < k + 1 → mayT P l j = true) := Lib.hid fun j hj => by
                by_cases e : j = k
                · subst e; exact HMAY.out
                · exact OK.out j (by omega)
              go_wp2_with fail
              go_roundw
              case rel => exact ⟨k + 1, by omega, by go_num, BF, OK2⟩
              case measure => simp [intOf]; omega
        · obtain rfl : k = n := by omega
          have HB : Hid (badT P l = k) := Lib.hid (badT_of (by rw [LX.out]; exact Nat.le_refl _) (fun j hj => OK.out j hj) (fun q => by rw [LX.out] at q; omega))
          go_wp2_with fail
          exact bodyPost_ret (results_tmp2 rfl _ _ _) rfl (by exact ⟨by rw [HB.out]; rfl, BB.out⟩)
  · rw [chkT_no (fun q => hE q.1)]
    have HE : Hid (errL P = 1) := Lib.hid (errL_no fun q => hE (errL_ok q))
    clear hE
    go_enter Tryd.func12, Tryd.ntmps12
    go_wp2_with fail
    refine (rcheckAll_any F np cp P _ HPP.out).mono ?_
    rw [HE.out]
    rintro e U ⟨rfl, bU⟩
    have BB := Lib.hid bU
    clear bU
    go_wp2_with fail
    exact bodyPost_ret (results_tmp2 rfl _ _ _) rfl (by exact ⟨rfl, BB.out⟩)

end Go.Proofs.YtfhlligcbpnkkaaDoor

/-
  Layer 18, the document: Tasks.
-/
namespace Go.Proofs.YtfhlligcbpnkkaaDoor
open Go.RowKit

set_option maxRecDepth 100000 in
set_option maxHeartbeats 8000000 in
theorem tasks_tr (F A : Option Addr) (np cp n c : Nat) (P : List (List I3)) (l : List I3) (w : World) (hn24 : n * 24 ≤ 140737488351232) (hP : Prgs w F np P) (hl : Prog w A n c l) :
    Calls Tryd.prog 14 #[.slice F np cp, .slice A n c] w (TasksP (tasksT P l) w) := by
  have HPP := Lib.hid hP
  have HL := Lib.hid hl
  have LX := Lib.hid hl.1
  have hnc := hl.2.1
  have HC := Lib.hid (check_tr F A np cp n c P l w hn24 hP hl)
  have hn24b := hn24
  clear hP hl hn24
  by_cases h : errL P = 0 ∧ l.length ≤ 65536
  · by_cases hb : badT P l = l.length
    · rw [tasksT_ok h hb]
      have HE : Hid (chkT P l = ((n : Int), 0)) := Lib.hid (by rw [chkT_ok h, hb, LX.out])
      have HOK : Hid (okL P) := Lib.hid (Classical.byContradiction fun q => by have := h.1; rw [errL_no q] at this; cases this)
      have hn6 : n ≤ 65536 := by have := h.2; have := LX.out; omega
      have HALL := Lib.hid (all_own.1 hb)
      clear h hb
      go_enter Tryd.func14, Tryd.ntmps14
      go_wp2_with fail
      refine HC.out.mono ?_
      rw [HE.out]
      rintro e U ⟨rfl, bU⟩
      have BB := Lib.hid bU
      clear bU HC
      go_wp2_with fail
      go_loopw [8, 28] (fun u t wr => ∃ (k : Nat) (D : Option Addr) (d : Nat), k ≤ n ∧ t = .int .i64 k ∧ u = .slice D (tasksK P l k).length d ∧ Hid (Below w.heap.size w wr) ∧ Hid (OwnTk 44 wr w.heap.size D d (tasksK P l k))) (fun _ t _ => n - (intOf t).toNat)
      case atStart => exact ⟨0, none, 0, Nat.zero_le _, rfl, rfl, BB, Lib.hid (OwnTk.nil_ _ _ _)⟩
      case round =>
        clear BB
        rename World => wr
        obtain ⟨k, D, d, hk, rfl, rfl, BB, OD⟩ := hrel
        by_cases hkn : k < n
        · obtain ⟨b, o, rfl, hb, c0, c1, c2⟩ := (HL.out.below BB.out).at_ hkn
          have hkl : k < l.length := by rw [LX.out]; exact hkn
          have hnx := tasksK_next (P := P) hkl
          obtain ⟨⟨kd, xi, xa⟩, hz⟩ : ∃ e, ith l k = e := ⟨_, rfl⟩
          rw [show jO l k = kd by unfold jO; rw [hz]] at c0
          rw [show jA l k = xi by unfold jA; rw [hz]] at c1
          rw [show jB l k = xa by unfold jB; rw [hz]] at c2
          rw [hz] at hnx
          dsimp only at hnx
          clear hz
          have hle := tasksK_len P l k
          obtain ⟨v, hv⟩ : ∃ v, tasksK P l k = v := ⟨_, rfl⟩
          rw [hv] at hnx hle OD ⊢
          clear hv
          have kt := Bk.new wr 41 #[.int .i64 kd, .int .i64 xi, .int .i64 xa]
          have ba := (Below.refl wr.heap.size wr).alloc (Nat.le_refl _) (.cells #[.int .i64 kd, .int .i64 xi, .int .i64 xa] 41)
          replace BB := Lib.hid (below3 BB.out ba)
          replace OD := Lib.hid (OD.out.below ba)
          obtain ⟨W, hW⟩ : ∃ W, wr.alloc (.cells #[.int .i64 kd, .int .i64 xi, .int .i64 xa] 41) = W := ⟨_, rfl⟩
          obtain ⟨g7, hg⟩ : ∃ g, wr.heap.size = g := ⟨_, rfl⟩
          rw [hW] at kt BB OD
          rw [hg] at kt
          have HW := Lib.hid hW
          have HG := Lib.hid hg
          have K7 := Lib.hid kt
          clear hW hg kt ba
          by_cases he : kd = 1
          · rw [if_pos he] at hnx
            have t0 : (kd == 1) = true := by simpa using he
            have HN := Lib.hid hnx
            clear he hnx
            go_upto_region 10 with fail
            rw [HW.out, HG.out]
            clear HW HG c0 c1 c2 hb
            obtain ⟨q0, q1, q2⟩ := K7.out.c3t
            have l7 := K7.out.lt
            obtain ⟨m, hm⟩ : ∃ m, ofR l xi = m := ⟨_, rfl⟩
            rw [hm] at HN
            have HSM : Hid ((oneT P m).isSome = true) := Lib.hid (by rw [← hm]; exact HALL.out xi)
            have HM := Lib.hid hm
            clear hm
            go_wp2_with fail
            refine (of_tr (some ⟨b, o, none⟩) n c l xi _ hn24b (HL.out.below BB.out)).mono ?_
            rw [HM.out]
            rintro e U1 ⟨D2, d2, rfl, ow, bU⟩
            clear q0 q1 q2 l7
            replace BB := Lib.hid (below3 BB.out bU)
            replace OD := Lib.hid (OD.out.below bU)
            have OM := Lib.hid ow.prog
            clear ow bU
            go_wp2_with fail
            refine (one_tr F D2 np cp m.length d2 P m _ HOK.out (HPP.out.below BB.out) OM.out).mono ?_
            unfold OneP
            rw [HSM.out]
            rintro e U2 ⟨T, rfl, hT, bU⟩
            replace BB := Lib.hid (below3 BB.out bU)
            replace OD := Lib.hid (OD.out.below bU)
            have HT : Hid ((oneT P m).getD zT = T) := Lib.hid (by cases e : oneT P m with | none => have := HSM.out; rw [e] at this; cases this | some u => exact (hT u e).symm)
            clear hT bU OM
            rw [HT.out] at HN
            have kt := Bk.new U2 44 (tc T)
            have ba := (Below.refl U2.heap.size U2).alloc (Nat.le_refl _) (.cells (tc T) 44)
            replace BB := Lib.hid (below3 BB.out ba)
            replace OD := Lib.hid (OD.out.below ba)
            obtain ⟨W2, hW⟩ : ∃ W, U2.alloc (.cells (tc T) 44) = W := ⟨_, rfl⟩
            obtain ⟨g8, hg⟩ : ∃ g, U2.heap.size = g := ⟨_, rfl⟩
            rw [hW] at kt BB OD
            rw [hg] at kt
            have HT1 := Lib.hid (tks1 W2 44 T)
            obtain ⟨id, tn, pg, pc, un, k0, k1, k2, k3, st, rn⟩ := T
            dsimp only [tc] at hW kt HT1 ⊢
            have HW := Lib.hid hW
            have HG := Lib.hid hg
            have K8 := Lib.hid kt
            clear hW hg kt ba
            go_upto_region 12 with fail
            rw [HW.out, HG.out]
            clear HW HG
            obtain ⟨qq0, qq1, qq2, qq3, qq4, qq5, qq6, qq7, qq8, qq9, qq10⟩ := K8.out.c11
            have l8 := K8.out.lt
            have bl := Lib.hid ((Below.refl W2.heap.size W2).alloc (Nat.le_refl _) (.cells #[.int .i64 id, .int .i64 tn, .int .i64 pg, .int .i64 pc, .int .i64 un, .int .i64 k0, .int .i64 k1, .int .i64 k2, .int .i64 k3, .int .i64 st, .int .i64 rn] 44))
            go_wp2_with (at_builtin; refine wpList_append_tks _ rfl _ _ 29 rfl 44 _ rfl Tryd.underlying29 Tryd.tkInfo w.heap.size D d v v.length rfl rfl (OD.out.below bl.out) (some ⟨W2.heap.size, 0, none⟩) 1 1 [⟨id, tn, pg, pc, un, k0, k1, k2, k3, st, rn⟩] rfl HT1.out (by omega) (Nat.le_trans BB.out.size bl.out.size) ?_; intro D1 d1 w1 ho hg; have HO := Lib.hid ho; have HB := Lib.hid ((below3 BB.out bl.out).grown hg (Nat.le_trans BB.out.size bl.out.size) (OD.out.block)); clear ho hg)
            go_roundw
            case rel => exact ⟨k + 1, D1, d1, by omega, by go_num, by rw [HN.out]; simp, HB, by rw [HN.out]; exact HO⟩
            case measure => simp [intOf]; omega
          · rw [if_neg he] at hnx
            have t0 : (kd == 1) = false := by simpa using he
            have HN := Lib.hid hnx
            clear he hnx
            go_upto_region 10 with fail
            rw [HW.out, HG.out]
            clear HW HG c0 c1 c2 hb
            obtain ⟨q0, q1, q2⟩ := K7.out.c3t
            have l7 := K7.out.lt
            go_wp2_with fail
            go_roundw
            case rel => exact ⟨k + 1, D, d, by omega, by go_num, by rw [HN.out], BB, by rw [HN.out]; exact OD⟩
            case measure => simp [intOf]; omega
        · have HE2 : Hid (tasksK P l k = tasksL P l) := Lib.hid (by unfold tasksK tasksL; rw [List.take_of_length_le (by have := LX.out; omega)])
          rw [HE2.out] at OD ⊢
          go_wp2_with fail
          exact bodyPost_ret (results_tmp2 rfl _ _ _) rfl (by exact ⟨D, d, rfl, OD.out, BB.out⟩)
    · rw [tasksT_bad h hb]
      obtain ⟨bd, hbd⟩ : ∃ b, badT P l = b := ⟨_, rfl⟩
      have HE : Hid (chkT P l = ((bd : Int), 0)) := Lib.hid (by rw [chkT_ok h, hbd])
      have t0 : decide ((bd : Int) < (n : Int)) = true := decide_eq_true (by have := badT_le P l; have := LX.out; omega)
      have t0n : decide (bd < n) = true := decide_eq_true (by have := badT_le P l; have := LX.out; omega)
      clear h hb hbd
      go_enter Tryd.func14, Tryd.ntmps14
      go_wp2_with fail
      refine HC.out.mono ?_
      rw [HE.out]
      rintro e U ⟨rfl, bU⟩
      have BB := Lib.hid bU
      clear bU HC
      go_wp2_with fail
      exact bodyPost_ret (results_tmp2 rfl _ _ _) rfl (by exact ⟨none, 0, rfl, OwnTk.nil_ _ _ _, BB.out⟩)
  · rw [tasksT_no h]
    have HE : Hid (chkT P l = (0, 1)) := Lib.hid (chkT_no h)
    clear h
    go_enter Tryd.func14, Tryd.ntmps14
    go_wp2_with fail
    refine HC.out.mono ?_
    rw [HE.out]
    rintro e U ⟨rfl, bU⟩
    have BB := Lib.hid bU
    clear bU HC
    go_wp2_with fail
    exact bodyPost_ret (results_tmp2 rfl _ _ _) rfl (by exact ⟨none, 0, rfl, OwnTk.nil_ _ _ _, BB.out⟩)

end Go.Proofs.YtfhlligcbpnkkaaDoor

/-
  Layer 12: traces of states as plain words; slices.IndexFunc, slices.ContainsFunc; the program's Trace.
-/
namespace Go.Proofs.YtfhlligcbpnkkaaDoor
open Go.RowKit

def allB (l : List Int) : Bool := l.all stB
theorem allB_iff {l : List Int} : allB l = true ↔ ∀ i, i < l.length → stB (nth l i) = true := by
  unfold allB
  rw [List.all_eq_true]
  constructor
  · intro h i hi
    rw [nth_get hi]
    exact h _ (List.getElem_mem hi)
  · intro h x hx
    obtain ⟨i, hi, rfl⟩ := List.getElem_of_mem hx
    rw [← nth_get hi]
    exact h i hi
theorem allB_no {l : List Int} {i : Nat} (hi : i < l.length) (h : stB (nth l i) = false) : allB l = false := by
  rw [← Bool.not_eq_true, allB_iff]
  intro q
  rw [q i hi] at h
  cases h

/-- How many states are a trace, if the first one may be. -/
def chnF : List Int → Nat
  | [] => 0
  | [_] => 1
  | a :: b :: r => if legB a b then chnF (b :: r) + 1 else 1
/-- The first k are a trace, and the next one, if there is one, may not follow. -/
def IsAt (l : List Int) (k : Nat) : Prop := 1 ≤ k ∧ k ≤ l.length ∧ (∀ i, i + 1 < k → legB (nth l i) (nth l (i + 1)) = true) ∧ (k < l.length → legB (nth l (k - 1)) (nth l k) = false)
theorem IsAt.unique {l : List Int} {j k : Nat} (h : IsAt l j) (q : IsAt l k) : j = k := by
  rcases Nat.lt_trichotomy j k with g | g | g
  · have a := h.2.2.2 (by have := q.2.1; omega)
    have b := q.2.2.1 (j - 1) (by have := h.1; omega)
    rw [show j - 1 + 1 = j by have := h.1; omega, a] at b
    cases b
  · exact g
  · have a := q.2.2.2 (by have := h.2.1; omega)
    have b := h.2.2.1 (k - 1) (by have := q.1; omega)
    rw [show k - 1 + 1 = k by have := q.1; omega, a] at b
    cases b
theorem nth_cons0 (a : Int) (l : List Int) : nth (a :: l) 0 = a := rfl
theorem nth_cons1 (a : Int) (l : List Int) (i : Nat) : nth (a :: l) (i + 1) = nth l i := rfl
theorem chn_at : ∀ {l : List Int}, 0 < l.length → IsAt l (chnF l)
  | [_], _ => ⟨Nat.le_refl _, Nat.le_refl _, fun i hi => by unfold chnF at hi; omega, fun h => by unfold chnF at h; simp at h⟩
  | a :: b :: r, _ => by
    have ih := chn_at (l := b :: r) (by simp)
    unfold chnF
    by_cases h : legB a b = true
    · rw [if_pos h]
      refine ⟨by omega, by simpa using ih.2.1, fun i hi => ?_, fun hk => ?_⟩
      · cases i with
        | zero => exact h
        | succ i => rw [nth_cons1, nth_cons1]; exact ih.2.2.1 i (by omega)
      · have := ih.2.2.2 (by simpa using hk)
        have e : nth (a :: b :: r) (chnF (b :: r)) = nth (b :: r) (chnF (b :: r) - 1) := by
          obtain ⟨m, hm⟩ : ∃ m, chnF (b :: r) = m + 1 := ⟨chnF (b :: r) - 1, by have := ih.1; omega⟩
          rw [hm]; rfl
        rw [Nat.add_sub_cancel, nth_cons1, e]
        exact this
    · rw [if_neg h]
      refine ⟨Nat.le_refl _, by simp, fun i hi => by omega, fun _ => ?_⟩
      simpa [nth_cons0, nth_cons1] using h

/-- Trace's answer. -/
def traceR (l : List Int) : Int × Int := if l.length = 0 then (0, 1) else if allB l = false then (0, 1) else if nth l 0 ≠ 1 then (0, 0) else (((chnF l : Nat) : Int), 0)
theorem traceR_0 {l : List Int} (h : l.length = 0) : traceR l = (0, 1) := if_pos h
theorem traceR_1 {l : List Int} (h : ¬ l.length = 0) (k : allB l = false) : traceR l = (0, 1) := by unfold traceR; rw [if_neg h, if_pos k]
theorem traceR_2 {l : List Int} (h : ¬ l.length = 0) (k : allB l = true) (m : ¬ nth l 0 = 1) : traceR l = (0, 0) := by unfold traceR; rw [if_neg h, if_neg (by rw [k]; decide), if_pos m]
theorem traceR_3 {l : List Int} (h : ¬ l.length = 0) (k : allB l = true) (m : nth l 0 = 1) {x : Nat} (hx : IsAt l x) : traceR l = (((x : Nat) : Int), 0) := by
  unfold traceR; rw [if_neg h, if_neg (by rw [k]; decide), if_neg (by simp [m]), hx.unique (chn_at (by omega))]

section
variable {w : World} {A : Option Addr} {n : Nat} {l : List Int}
theorem Ints.at_ (h : Ints w A n l) {j : Nat} (hj : j < n) : ∃ b o, A = some ⟨b, o, none⟩ ∧ b < w.heap.size ∧ w.cell? ⟨b, o + j, none⟩ = some (.int .i64 (nth l j)) := by
  obtain ⟨b, o, e, hb, hc⟩ := h.2.2.2 (by omega)
  exact ⟨b, o, e, hb, hc j hj⟩
end

end Go.Proofs.YtfhlligcbpnkkaaDoor

/-
  Layer 12: the document's Trace; the chapter's example comes to true.
-/
namespace Go.Proofs.YtfhlligcbpnkkaaDoor
open Go.RowKit

theorem ints_of_bk {w : World} {g : Nat} {E : TypeId} {zs : List Int} (h : Bk w g E (zs.map (Value.int .i64)).toArray) (hf : ∀ z ∈ zs, Fit z) (hl : zs.length * 8 ≤ 140737488351232) : Ints w (some ⟨g, 0, none⟩) zs.length zs :=
  ⟨rfl, hl, hf, fun _ => ⟨g, 0, rfl, h.lt, fun j hj => by rw [h.cell (0 + j)]; simp [hj, nth, List.getD]⟩⟩
theorem live_ok : traceR [1, 2, 3, 1, 2, 7] = (6, 0) := by decide
theorem live_no : legB 3 2 = false := by decide

end Go.Proofs.YtfhlligcbpnkkaaDoor

/-
  Layer 12: what a trace's beginnings, and one more state behind it, come to.
-/
namespace Go.Proofs.YtfhlligcbpnkkaaDoor
open Go.RowKit

theorem infoIn : (Tryd.prog.info? 3).map (fun i => (i.zero, i.size, i.bytes)) = some (some (.int .i64 0), 1, 8) := by kernel_rfl

section
variable {l : List Int} {k i m : Nat} {x : Int}
theorem nth_take_ (h : i < k) : nth (l.take k) i = nth l i := by simp [nth, List.getD, h]
theorem nth_snoc_ (h : i < l.length) : nth (l ++ [x]) i = nth l i := by simp [nth, List.getD, List.getElem?_append_left h]
theorem nth_snoc_last : nth (l ++ [x]) l.length = x := by simp [nth, List.getD]
theorem allB_take (h : allB l = true) (k : Nat) : allB (l.take k) = true := allB_iff.2 fun i hi => by
  rw [List.length_take] at hi
  rw [nth_take_ (by omega)]
  exact allB_iff.1 h i (by omega)
theorem allB_snoc (h : allB l = true) (hx : stB x = true) : allB (l ++ [x]) = true := allB_iff.2 fun i hi => by
  rw [List.length_append] at hi
  by_cases e : i < l.length
  · rw [nth_snoc_ e]; exact allB_iff.1 h i e
  · obtain rfl : i = l.length := by simp at hi; omega
    rw [nth_snoc_last]; exact hx
theorem Ints.take_ {w : World} {A : Option Addr} {n : Nat} (h : Ints w A n l) (hk : k ≤ n) : Ints w A k (l.take k) :=
  ⟨by rw [List.length_take]; have := h.1; omega, by have := h.2.1; omega, fun z hz => h.2.2.1 z (List.mem_of_mem_take hz), fun hn => by
    obtain ⟨b, o, e, hb, hc⟩ := h.2.2.2 (by omega)
    exact ⟨b, o, e, hb, fun j hj => by rw [nth_take_ hj]; exact hc j (by omega)⟩⟩
/-- All are states: how far they are a trace. -/
theorem trace_all (h0 : 0 < l.length) (hA : allB l = true) : ∃ y : Nat, traceR l = ((y : Int), 0) ∧ y ≤ l.length ∧ ((y = 0 ∧ nth l 0 ≠ 1) ∨ (nth l 0 = 1 ∧ IsAt l y)) := by
  by_cases h1 : nth l 0 = 1
  · exact ⟨chnF l, traceR_3 (by omega) hA h1 (chn_at h0), (chn_at h0).2.1, .inr ⟨h1, chn_at h0⟩⟩
  · exact ⟨0, traceR_2 (by omega) hA h1, by omega, .inl ⟨rfl, h1⟩⟩
theorem trace_take {y : Nat} (hA : allB l = true) (hy : (y = 0 ∧ nth l 0 ≠ 1) ∨ (nth l 0 = 1 ∧ IsAt l y)) (h1 : 1 ≤ k) (h2 : k ≤ l.length) : traceR (l.take k) = (((min y k : Nat) : Int), 0) := by
  have hl : (l.take k).length = k := by rw [List.length_take]; omega
  rcases hy with ⟨rfl, hn⟩ | ⟨h, hi⟩
  · rw [traceR_2 (by omega) (allB_take hA k) (by rw [nth_take_ (by omega)]; exact hn), Nat.zero_min]; rfl
  · refine traceR_3 (by omega) (allB_take hA k) (by rw [nth_take_ (by omega)]; exact h) ⟨?_, ?_, fun i q => ?_, fun q => ?_⟩
    · have := hi.1; omega
    · omega
    · rw [nth_take_ (by omega), nth_take_ (by omega)]; exact hi.2.2.1 i (by omega)
    · rw [hl] at q
      have e : min y k = y := by omega
      rw [e] at q ⊢
      rw [nth_take_ (by omega), nth_take_ (by omega)]
      exact hi.2.2.2 (by omega)
theorem trace_no (hx : stB x = false) : traceR (l ++ [x]) = (0, 1) :=
  traceR_1 (by simp) (allB_no (i := l.length) (by simp) (by rw [nth_snoc_last]; exact hx))
theorem trace_short {y : Nat} (hA : allB l = true) (h0 : 0 < l.length) (hy : (y = 0 ∧ nth l 0 ≠ 1) ∨ (nth l 0 = 1 ∧ IsAt l y)) (hx : stB x = true) (h : y < l.length) : traceR (l ++ [x]) = ((y : Int), 0) := by
  have hl : (l ++ [x]).length = l.length + 1 := by simp
  rcases hy with ⟨rfl, hn⟩ | ⟨h1, hi⟩
  · exact traceR_2 (by omega) (allB_snoc hA hx) (by rw [nth_snoc_ h0]; exact hn)
  · refine traceR_3 (by omega) (allB_snoc hA hx) (by rw [nth_snoc_ h0]; exact h1) ⟨hi.1, by omega, fun i q => ?_, fun q => ?_⟩
    · rw [nth_snoc_ (by omega), nth_snoc_ (by omega)]; exact hi.2.2.1 i q
    · rw [nth_snoc_ (by omega), nth_snoc_ h]; exact hi.2.2.2 h
theorem trace_full (hA : allB l = true) (h0 : 0 < l.length) (hi : nth l 0 = 1 ∧ IsAt l l.length) (hx : stB x = true) :
    traceR (l ++ [x]) = (((if legB (nth l (l.length - 1)) x = true then l.length + 1 else l.length : Nat) : Int), 0) := by
  have hl : (l ++ [x]).length = l.length + 1 := by simp
  obtain ⟨h1, hi⟩ := hi
  refine traceR_3 (by omega) (allB_snoc hA hx) (by rw [nth_snoc_ h0]; exact h1) ?_
  by_cases hb : legB (nth l (l.length - 1)) x = true
  · rw [if_pos hb]
    refine ⟨by omega, by omega, fun i q => ?_, fun q => by omega⟩
    by_cases e : i + 1 < l.length
    · rw [nth_snoc_ (by omega), nth_snoc_ e]; exact hi.2.2.1 i e
    · obtain rfl : i = l.length - 1 := by omega
      rw [nth_snoc_ (by omega), show l.length - 1 + 1 = l.length by omega, nth_snoc_last]; exact hb
  · rw [if_neg hb]
    refine ⟨by omega, by omega, fun i q => ?_, fun q => ?_⟩
    · rw [nth_snoc_ (by omega), nth_snoc_ q]; exact hi.2.2.1 i q
    · rw [nth_snoc_ (by omega), nth_snoc_last]; simpa using hb
end

end Go.Proofs.YtfhlligcbpnkkaaDoor

import Derived.Test.YtfhlligcbpnkkaaDoorMg16
import Derived.Test.YtfhlligcbpnkkaaDoorMg17
import Derived.Test.YtfhlligcbpnkkaaDoorMg28
import Derived.Test.YtfhlligcbpnkkaaDoorMg15
import Derived.Test.YtfhlligcbpnkkaaDoorMg3
import Derived.Test.YtfhlligcbpnkkaaDoorMg14
import Derived.OrdersHeld
import Derived.Test.YtfhlligcbpnkkaaDoorCards
import Derived.Test.YtfhlligcbpnkkaaDoorTie
import Derived.SevenTiedAt

/-
  append of instructions (or events) in a region that draws, at the operation.
-/
namespace Go.Proofs.YtfhlligcbpnkkaaDoor
open Go.RowKit

theorem wpOp_append_prog {P : Program} {ops : Array Oper} {Q : Exit → Act → World → Prop} {K : Act → World → Prop} {i : Nat} {o : Oper} {a : Act} (w : World) (hi : ops[i]? = some o) (hgd : o.guard = none) (s x : Operand) (t : TypeId)
    (ho : o.op = .call { callee := .builtin .append, args := #[s, x], argTypes := #[t, t] })
    (E : TypeId) (z : Value) (hzs : z.cells.size = 3) (ht : P.underlying t = some (.slice E)) (hinf : (P.info? E).map (fun i => (i.zero, i.size, i.bytes)) = some (some z, 3, 24))
    (base : Nat) (A : Option Addr) (c : Nat) (xs : List I3) (n : Nat) (hn : n = xs.length) (hs : a.eval s = .slice A n c) (hown : OwnP E w base A c xs) (B : Option Addr) (m d : Nat) (ys : List I3) (hx : a.eval x = .slice B m d) (hy : Prog w B m d ys)
    (hb : (xs.length + m) * 24 ≤ 140737488351232) (hbase : base ≤ w.heap.size)
    (h : ∀ A' c' w', OwnP E w' base A' c' (xs ++ ys) → w.grownBy w' (Value.slice A n c).ownBlock → K (a.put o.dst (.slice A' (xs ++ ys).length c')) w') :
    wpOp P ops Q i K a w := by
  subst hn
  obtain ⟨A', c', w', hr, h2, h3⟩ := run_append_prog (P := P) w t o.type E z hzs ht hinf base A c xs hown B m d ys hy hb hbase
  unfold wpOp
  simp only [hi]
  have hw : Region.wanted o (yielded ops a.tmps) = true := by unfold Region.wanted; rw [hgd]
  simp only [hw, if_true]
  left
  unfold Oper.wp execOp
  simp only [ho, resolve, invoke, builtin, Sem.run_bind, Sem.run_pure, Result.andThen_ok, List.map_toArray, List.map_cons, List.map_nil, hs, hx, hr, Oper.upon]
  exact h A' c' w' h2 h3

end Go.Proofs.YtfhlligcbpnkkaaDoor

/-
  Layer 18: the law TraceMore: an event that may come behind others is one of its task, that it may have.
-/
namespace Go.Proofs.YtfhlligcbpnkkaaDoor
open Go.RowKit

set_option maxHeartbeats 4000000 in
theorem lmore_any (F A : Option Addr) (np cp n c : Nat) (P : List (List I3)) (l : List I3) (x : I3) (w : World) (hF : Fol w) (hP : Prgs w F np P) (hl : Prog w A n c l) (hx : FitI x) :
    Calls Tryd.prog 7 #[.slice F np cp, .slice A n c, .agg #[.int .i64 x.1, .int .i64 x.2.1, .int .i64 x.2.2]] w (RetB (.bool true) w) := by
  obtain ⟨kd, xi, xa⟩ := x
  dsimp only
  have HF := Lib.hid hF
  have HPP := Lib.hid hP
  have HL := Lib.hid hl
  have LX := Lib.hid hl.1
  have hnc := hl.2.1
  clear hF hP hl
  by_cases hfw : fewB P = true
  · by_cases hn : n ≤ 100
    · have HFW := Lib.hid hfw
      have HN := Lib.hid hn
      have tn : decide (100 < (n : Int)) = false := decide_eq_false (by omega)
      have tnn : decide (100 < n) = false := decide_eq_false (by omega)
      clear hfw hn
      by_cases he : errL P = 0
      · by_cases hb : badT P l = l.length
        · have HC1 : Hid (chkT P l = ((n : Int), 0)) := Lib.hid (by rw [chkT_ok ⟨he, by have := LX.out; have := HN.out; omega⟩, hb, LX.out])
          have HOK := Lib.hid (okL_of he)
          have PLN := Lib.hid HPP.out.1
          have HNP := Lib.hid HOK.out.2.1
          have hbs := bad_snoc hb (kd, xi, xa)
          dsimp only at hbs
          obtain ⟨mm, hmm⟩ : ∃ m : Int, (badT P (l ++ [(kd, xi, xa)]) : Int) = m := ⟨_, rfl⟩
          have HC2 : Hid (chkT P (l ++ [(kd, xi, xa)]) = (mm, 0)) := Lib.hid (by rw [chkT_ok ⟨he, by rw [List.length_append]; simp; have := LX.out; have := HN.out; omega⟩, hmm])
          have HYES : Hid ((oneT P (ofR l xi ++ [(kd, xi, xa)])).isSome = true → mm = (n : Int) + 1) := Lib.hid (fun q => by rw [if_pos q] at hbs; have := LX.out; omega)
          have HNO : Hid (¬ (oneT P (ofR l xi ++ [(kd, xi, xa)])).isSome = true → mm = (n : Int)) := Lib.hid (fun q => by rw [if_neg q] at hbs; have := LX.out; omega)
          obtain ⟨m, hm1⟩ : ∃ m, ofR l xi = m := ⟨_, rfl⟩
          have HM := Lib.hid hm1
          clear hbs hmm hm1 he hb
          obtain ⟨kb, hb0⟩ := lay1 w #[.int .i64 kd, .int .i64 xi, .int .i64 xa] 41
          obtain ⟨V, hV⟩ : ∃ V, w.alloc (.cells #[.int .i64 kd, .int .i64 xi, .int .i64 xa] 41) = V := ⟨_, rfl⟩
          rw [hV] at hb0 kb
          have HV := Lib.hid hV
          have BB := Lib.hid hb0
          have KE := Lib.hid kb
          clear hV hb0 kb
          go_enter Tryd.func7, Tryd.ntmps7
          go_upto_region 1 with fail
          rw [HV.out]
          clear HV
          go_wp2_with fail
          refine (live_any _ (HF.out.le BB.out)).mono ?_
          try dsimp only
          rintro e U1 ⟨rfl, bU1⟩
          replace KE := Lib.hid (KE.out.below bU1 KE.out.lt)
          replace BB := Lib.hid (below3 BB.out bU1)
          clear bU1
          go_wp2_with fail
          refine (few_any F np cp P _ (HPP.out.below BB.out)).mono ?_
          rw [HFW.out]
          try dsimp only
          rintro e U2 ⟨rfl, hw⟩
          have hw2 := hw.symm
          subst hw2
          clear hw
          go_wp2_with fail
          refine (check_pr F A np cp n c P l _ (HF.out.le BB.out) (HPP.out.below BB.out) (HL.out.below BB.out)).mono ?_
          rw [HC1.out]
          try dsimp only
          rintro e U3 ⟨rfl, bU3⟩
          replace KE := Lib.hid (KE.out.below bU3 KE.out.lt)
          replace BB := Lib.hid (below3 BB.out bU3)
          clear bU3
          go_upto_region 7 with fail
          refine wp_region_held (S := fun U => Bk U w.heap.size 41 #[.int .i64 kd, .int .i64 xi, .int .i64 xa]) (by kernel_rfl) ?_
          change wpAnyH _ _ _ _ _ _ _ _ (World.drew U3)
          have bd := (Below.refl U3.heap.size U3).drew
          have hS0 := KE.out.below bd KE.out.lt
          replace BB := Lib.hid (below3 BB.out bd)
          generalize U3.drew = U0 at hS0 BB ⊢
          clear bd KE
          refine take_at (i := 0) (d := 40) (v := .slice F np cp) rfl rfl (by kernel_rfl) (by kernel_rfl) (by kernel_rfl) (fun _ _ _ h => h) (.inl ⟨by kernel_rfl, fun U hU => by go_simp⟩) hS0 ?_
          simp only [Act.put, List.setIfInBounds_toArray, List.set_cons_zero, List.set_cons_succ]
          refine take_at (i := 1) (d := 41) (v := .slice A n c) rfl rfl (by kernel_rfl) (by kernel_rfl) (by kernel_rfl) (fun _ _ _ h => h) (.inl ⟨by kernel_rfl, fun U hU => by go_simp⟩) hS0 ?_
          simp only [Act.put, List.setIfInBounds_toArray, List.set_cons_zero, List.set_cons_succ]
          refine take_at (i := 3) (d := 43) (v := .agg #[.int .i64 kd, .int .i64 xi, .int .i64 xa]) rfl rfl (by kernel_rfl) (by kernel_rfl) (by kernel_rfl) (fun _ _ _ h => h) (.inl ⟨by kernel_rfl, fun U hU => by obtain ⟨q0, q1, q2⟩ := Bk.c3t hU; have ql := Bk.lt hU; go_simp⟩) hS0 ?_
          simp only [Act.put, List.setIfInBounds_toArray, List.set_cons_zero, List.set_cons_succ]
          refine wpAnyH_all (rs := [2, 4]) (by kernel_rfl) (by simp) ?_
          intro i hi
          simp only [List.mem_cons, List.not_mem_nil, or_false] at hi
          rcases hi with rfl | rfl
          · have hB := Lib.hid (Below.refl U0.heap.size U0)
            have HLU := Lib.hid (HL.out.below BB.out)
            refine wpOp_append_prog _ rfl rfl _ _ 23 rfl 41 _ rfl Tryd.underlying23 Tryd.evInfo U0.heap.size none 0 [] 0 rfl rfl (OwnP.nil_ _ _ _) A n c l rfl (HLU.out.below hB.out) (by simp; have := HN.out; omega) hB.out.size ?_
            intro D1 d1 X1 ow hg
            rw [List.nil_append] at ow ⊢
            have hB1 := Lib.hid (below3 hB.out (below_app0 hg))
            have HOW := Lib.hid ow
            have hS1 := hS0.below hB1.out hS0.lt
            clear ow hg
            refine ⟨hS1, ?_⟩
            dsimp only [Act.put]
            refine wpAnyH_all (rs := [4]) (by kernel_rfl) (by simp) ?_
            intro i hi
            simp only [List.mem_cons, List.not_mem_nil, or_false] at hi
            subst hi
            have hp := Lib.hid (prog1_tr X1 41 hx)
            have ba := (Below.refl X1.heap.size X1).alloc (Nat.le_refl _) (.cells #[.int .i64 kd, .int .i64 xi, .int .i64 xa] 41)
            have hB2 := Lib.hid (below3 hB1.out ba)
            have hS2 := hS0.below hB2.out hS0.lt
            replace HOW := Lib.hid (HOW.out.below ba)
            clear ba hB1 hS1
            unfold wpOp
            go_simp
            left
            refine wpAnyH_all (rs := [5]) (by kernel_rfl) (by simp) ?_
            intro i hi
            simp only [List.mem_cons, List.not_mem_nil, or_false] at hi
            subst hi
            refine wpOp_append_prog _ rfl rfl _ _ 23 rfl 41 _ rfl Tryd.underlying23 Tryd.evInfo U0.heap.size D1 d1 l l.length rfl rfl HOW.out (some ⟨X1.heap.size, 0, none⟩) 1 1 [(kd, xi, xa)] rfl hp.out (by have := LX.out; have := HN.out; omega) hB2.out.size ?_
            intro D2 d2 X2 ow hg
            have hB3 := Lib.hid (hB2.out.grown hg hB2.out.size HOW.out.block)
            have hS3 := hS0.below hB3.out hS0.lt
            have hll : (l ++ [(kd, xi, xa)]).length = n + 1 := by rw [List.length_append, LX.out]; rfl
            have hpp := ow.prog
            rw [hll] at hpp ⊢
            have HO2 := Lib.hid hpp
            clear ow hg hS2 hll hpp
            refine ⟨hS3, ?_⟩
            dsimp only [Act.put]
            refine wpAnyH_all (rs := [6]) (by kernel_rfl) (by simp) ?_
            intro i hi
            simp only [List.mem_cons, List.not_mem_nil, or_false] at hi
            subst hi
            unfold wpOp
            go_simp
            left
            have BB3 := Lib.hid (BB.out.trans (hB3.out.mono BB.out.size))
            refine (check_pr F D2 np cp (n + 1) d2 P (l ++ [(kd, xi, xa)]) _ (HF.out.le BB3.out) (HPP.out.below BB3.out) HO2.out).mono ?_
            rw [HC2.out]
            dsimp only
            rintro e U4 ⟨rfl, b4⟩
            replace hS3 := hS3.below b4 hS3.lt
            replace BB := Lib.hid (below3 BB3.out b4)
            refine ⟨hS3, ?_⟩
            clear hS0 b4 HO2 BB3 hB3 hB2 hp HOW HLU
            have hS0 := hS3
            clear hS3
            refine take_at (i := 7) (d := 39) (v := .tuple #[.int .i64 mm, .int .i64 0]) rfl rfl (by kernel_rfl) (by kernel_rfl) (by kernel_rfl) (fun _ _ _ h => h) (.inl ⟨by kernel_rfl, fun U hU => by go_simp⟩) hS0 ?_
            simp only [Act.put, List.setIfInBounds_toArray, List.set_cons_zero, List.set_cons_succ]
            refine take_at (i := 8) (d := 47) (v := .int .i64 mm) rfl rfl (by kernel_rfl) (by kernel_rfl) (by kernel_rfl) (fun _ _ _ h => h) (.inl ⟨by kernel_rfl, fun U hU => by go_simp⟩) hS0 ?_
            simp only [Act.put, List.setIfInBounds_toArray, List.set_cons_zero, List.set_cons_succ]
            refine take_at (i := 9) (d := 48) (v := .int .i64 0) rfl rfl (by kernel_rfl) (by kernel_rfl) (by kernel_rfl) (fun _ _ _ h => h) (.inl ⟨by kernel_rfl, fun U hU => by go_simp⟩) hS0 ?_
            simp only [Act.put, List.setIfInBounds_toArray, List.set_cons_zero, List.set_cons_succ]
            refine take_at (i := 10) (d := 10) (v := .int .i64 mm) rfl rfl (by kernel_rfl) (by kernel_rfl) (by kernel_rfl) (fun _ _ _ h => h) (.inl ⟨by kernel_rfl, fun U hU => by go_simp⟩) hS0 ?_
            simp only [Act.put, List.setIfInBounds_toArray, List.set_cons_zero, List.set_cons_succ]
            refine take_at (i := 11) (d := 11) (v := .int .i64 0) rfl rfl (by kernel_rfl) (by kernel_rfl) (by kernel_rfl) (fun _ _ _ h => h) (.inl ⟨by kernel_rfl, fun U hU => by go_simp⟩) hS0 ?_
            simp only [Act.put, List.setIfInBounds_toArray, List.set_cons_zero, List.set_cons_succ]
            refine wpAnyH_done (by kernel_rfl) ?_ _
            have KE := Lib.hid hS0
            clear hS0
            obtain ⟨qq0, qq1, qq2⟩ := KE.out.c3t
            have lqE := KE.out.lt
            go_wp2_with fail
            refine (of_pr A n c l xi _ (by have := HN.out; omega) (HL.out.below BB.out)).mono ?_
            unfold NewEv
            rw [HM.out]
            try dsimp only
            rintro e U41 ⟨A3, c3, rfl, ow, bU41⟩
            replace KE := Lib.hid (KE.out.below bU41 KE.out.lt)
            replace BB := Lib.hid (below3 BB.out bU41)
            clear bU41
            have T3 := Lib.hid ow
            clear ow qq0 qq1 qq2 lqE
            by_cases hm0 : m = []
            · subst hm0
              have hm := HM.out
              have HMX := Lib.hid hm
              by_cases k1 : kd = 1
              · by_cases k2 : 0 ≤ xi
                · by_cases k3 : 0 ≤ xa
                  · by_cases k4 : xa < (np : Int)
                    · obtain rfl : mm = (n : Int) + 1 := HYES.out (by rw [hm]; show (oneT P [(kd, xi, xa)]).isSome = true; rw [born_one]; exact (born_iff HNP.out (kd, xi, xa)).2 ⟨k1, k2, k3, by rw [PLN.out]; exact k4⟩)
                      have tk : (kd == 1) = true := by simpa using k1
                      have ti : decide (0 ≤ xi) = true := decide_eq_true k2
                      have ta : decide (0 ≤ xa) = true := decide_eq_true k3
                      have tb : decide (xa < (np : Int)) = true := decide_eq_true k4
                      clear hm T3 HMX
                      clear k1 k2 k3 k4
                      obtain ⟨q0, q1, q2⟩ := KE.out.c3t
                      have lE := KE.out.lt
                      have tg : decide ((n : Int) + 1 < (n : Int)) = false := decide_eq_false (by omega)
                      have te : ((n : Int) == (n : Int) + 1) = false := by simp; omega
                      have te2 : ((n : Int) + 1 == (n : Int)) = false := by simp; omega
                      have ew : wrap64 ((n : Int) + 1) = (n : Int) + 1 := by have := HN.out; unfold wrap64; omega
                      have ew2 : IntKind.i64.wrap ((n : Int) + 1) = (n : Int) + 1 := by have := HN.out; rw [IntKind.wrap_i64]; omega
                      have tl1 : decide ((n : Int) < (n : Int)) = false := decide_eq_false (by omega)
                      go_wp2_with fail
                      go_ret
                      exact ⟨rfl, BB.out⟩
                    · obtain rfl : mm = (n : Int) := HNO.out (by rw [hm]; show ¬ (oneT P [(kd, xi, xa)]).isSome = true; rw [born_one]; intro q; have q := (born_iff HNP.out (kd, xi, xa)).1 q; exact k4 (by have := q.2.2.2; rw [PLN.out] at this; exact this))
                      have tk : (kd == 1) = true := by simpa using k1
                      have ti : decide (0 ≤ xi) = true := decide_eq_true k2
                      have ta : decide (0 ≤ xa) = true := decide_eq_true k3
                      have tb : decide (xa < (np : Int)) = false := decide_eq_false k4
                      clear hm T3 HMX
                      clear k1 k2 k3 k4
                      obtain ⟨q0, q1, q2⟩ := KE.out.c3t
                      have lE := KE.out.lt
                      have tg : decide ((n : Int) + 1 < (n : Int)) = false := decide_eq_false (by omega)
                      have te : ((n : Int) == (n : Int) + 1) = false := by simp; omega
                      have te2 : ((n : Int) + 1 == (n : Int)) = false := by simp; omega
                      have ew : wrap64 ((n : Int) + 1) = (n : Int) + 1 := by have := HN.out; unfold wrap64; omega
                      have ew2 : IntKind.i64.wrap ((n : Int) + 1) = (n : Int) + 1 := by have := HN.out; rw [IntKind.wrap_i64]; omega
                      have tl1 : decide ((n : Int) < (n : Int)) = false := decide_eq_false (by omega)
                      go_wp2_with fail
                      go_ret
                      exact ⟨rfl, BB.out⟩
                  · obtain rfl : mm = (n : Int) := HNO.out (by rw [hm]; show ¬ (oneT P [(kd, xi, xa)]).isSome = true; rw [born_one]; intro q; have q := (born_iff HNP.out (kd, xi, xa)).1 q; exact k3 q.2.2.1)
                    have tk : (kd == 1) = true := by simpa using k1
                    have ti : decide (0 ≤ xi) = true := decide_eq_true k2
                    have ta : decide (0 ≤ xa) = false := decide_eq_false k3
                    clear hm T3 HMX
                    clear k1 k2 k3
                    obtain ⟨q0, q1, q2⟩ := KE.out.c3t
                    have lE := KE.out.lt
                    have tg : decide ((n : Int) + 1 < (n : Int)) = false := decide_eq_false (by omega)
                    have te : ((n : Int) == (n : Int) + 1) = false := by simp; omega
                    have te2 : ((n : Int) + 1 == (n : Int)) = false := by simp; omega
                    have ew : wrap64 ((n : Int) + 1) = (n : Int) + 1 := by have := HN.out; unfold wrap64; omega
                    have ew2 : IntKind.i64.wrap ((n : Int) + 1) = (n : Int) + 1 := by have := HN.out; rw [IntKind.wrap_i64]; omega
                    have tl1 : decide ((n : Int) < (n : Int)) = false := decide_eq_false (by omega)
                    go_wp2_with fail
                    go_ret
                    exact ⟨rfl, BB.out⟩
                · obtain rfl : mm = (n : Int) := HNO.out (by rw [hm]; show ¬ (oneT P [(kd, xi, xa)]).isSome = true; rw [born_one]; intro q; have q := (born_iff HNP.out (kd, xi, xa)).1 q; exact k2 q.2.1)
                  have tk : (kd == 1) = true := by simpa using k1
                  have ti : decide (0 ≤ xi) = false := decide_eq_false k2
                  clear hm T3 HMX
                  clear k1 k2
                  obtain ⟨q0, q1, q2⟩ := KE.out.c3t
                  have lE := KE.out.lt
                  have tg : decide ((n : Int) + 1 < (n : Int)) = false := decide_eq_false (by omega)
                  have te : ((n : Int) == (n : Int) + 1) = false := by simp; omega
                  have te2 : ((n : Int) + 1 == (n : Int)) = false := by simp; omega
                  have ew : wrap64 ((n : Int) + 1) = (n : Int) + 1 := by have := HN.out; unfold wrap64; omega
                  have ew2 : IntKind.i64.wrap ((n : Int) + 1) = (n : Int) + 1 := by have := HN.out; rw [IntKind.wrap_i64]; omega
                  have tl1 : decide ((n : Int) < (n : Int)) = false := decide_eq_false (by omega)
                  go_wp2_with fail
                  go_ret
                  exact ⟨rfl, BB.out⟩
              · obtain rfl : mm = (n : Int) := HNO.out (by rw [hm]; show ¬ (oneT P [(kd, xi, xa)]).isSome = true; rw [born_one]; intro q; have q := (born_iff HNP.out (kd, xi, xa)).1 q; exact k1 q.1)
                have tk : (kd == 1) = false := by simpa using k1
                clear hm T3 HMX
                clear k1
                obtain ⟨q0, q1, q2⟩ := KE.out.c3t
                have lE := KE.out.lt
                have tg : decide ((n : Int) + 1 < (n : Int)) = false := decide_eq_false (by omega)
                have te : ((n : Int) == (n : Int) + 1) = false := by simp; omega
                have te2 : ((n : Int) + 1 == (n : Int)) = false := by simp; omega
                have ew : wrap64 ((n : Int) + 1) = (n : Int) + 1 := by have := HN.out; unfold wrap64; omega
                have ew2 : IntKind.i64.wrap ((n : Int) + 1) = (n : Int) + 1 := by have := HN.out; rw [IntKind.wrap_i64]; omega
                have tl1 : decide ((n : Int) < (n : Int)) = false := decide_eq_false (by omega)
                go_wp2_with fail
                go_ret
                exact ⟨rfl, BB.out⟩
            · have HMX := HM
              by_cases k1 : kd = 1
              · have hml : 0 < m.length := Nat.pos_of_ne_zero (fun q => hm0 (List.eq_nil_of_length_eq_zero q))
                obtain ⟨ml, hmle⟩ : ∃ q, m.length = q := ⟨_, rfl⟩
                have HLE : Hid (ml ≤ n) := Lib.hid (by rw [← hmle, ← HM.out, ← LX.out]; exact ofR_len l xi)
                have tz : ((ml : Int) == 0) = false := by simp; omega
                obtain rfl : mm = (n : Int) := HNO.out (fun q => (more_end HOK.out hml (kd, xi, xa) (by rw [← HM.out]; exact q)).1 k1)
                have tk : (kd == 1) = true := by simpa using k1
                have TM := Lib.hid T3.out
                rw [hmle]
                clear hml k1 hm0 T3 TM HMX
                obtain ⟨q0, q1, q2⟩ := KE.out.c3t
                have lE := KE.out.lt
                have tg : decide ((n : Int) + 1 < (n : Int)) = false := decide_eq_false (by omega)
                have te : ((n : Int) == (n : Int) + 1) = false := by simp; omega
                have te2 : ((n : Int) + 1 == (n : Int)) = false := by simp; omega
                have ew : wrap64 ((n : Int) + 1) = (n : Int) + 1 := by have := HN.out; unfold wrap64; omega
                have ew2 : IntKind.i64.wrap ((n : Int) + 1) = (n : Int) + 1 := by have := HN.out; rw [IntKind.wrap_i64]; omega
                have tl1 : decide ((n : Int) < (n : Int)) = false := decide_eq_false (by omega)
                go_wp2_with fail
                go_ret
                exact ⟨rfl, BB.out⟩
              · by_cases hs : (oneT P (ofR l xi ++ [(kd, xi, xa)])).isSome = true
                · have hml : 0 < m.length := Nat.pos_of_ne_zero (fun q => hm0 (List.eq_nil_of_length_eq_zero q))
                  obtain ⟨ml, hmle⟩ : ∃ q, m.length = q := ⟨_, rfl⟩
                  have HLE : Hid (ml ≤ n) := Lib.hid (by rw [← hmle, ← HM.out, ← LX.out]; exact ofR_len l xi)
                  have tz : ((ml : Int) == 0) = false := by simp; omega
                  obtain ⟨⟨lk, li, la⟩, hy⟩ : ∃ e, ith m (ml - 1) = e := ⟨_, rfl⟩
                  obtain ⟨b3, o3, hA3, hb3, d0, -, -⟩ := T3.out.prog.at_ (j := ml - 1) (by rw [hmle]; omega)
                  subst hA3
                  rw [show jO m (ml - 1) = lk by unfold jO; rw [hy]] at d0
                  have hme := more_end HOK.out hml (kd, xi, xa) (by rw [← HM.out]; exact hs)
                  rw [hmle, hy] at hme
                  obtain rfl : mm = (n : Int) + 1 := HYES.out hs
                  have t5 : (lk != 5) = true := by simpa using hme.2.1
                  have t6 : (lk != 6) = true := by simpa using hme.2.2
                  clear hme
                  have tk : (kd == 1) = false := by simpa using k1
                  have ek : wrap64 ((ml : Int) - 1) = ((ml - 1 : Nat) : Int) := by have := HLE.out; have := HN.out; unfold wrap64; omega
                  have ek3 : IntKind.i64.wrap ((ml : Int) - 1) = ((ml - 1 : Nat) : Int) := by have := HLE.out; have := HN.out; rw [IntKind.wrap_i64]; omega
                  have ek2 : ml - 1 < ml := by omega
                  rw [hmle]
                  clear hml k1 hm0 T3 HMX hmle hy hs
                  obtain ⟨q0, q1, q2⟩ := KE.out.c3t
                  have lE := KE.out.lt
                  have tg : decide ((n : Int) + 1 < (n : Int)) = false := decide_eq_false (by omega)
                  have te : ((n : Int) == (n : Int) + 1) = false := by simp; omega
                  have te2 : ((n : Int) + 1 == (n : Int)) = false := by simp; omega
                  have ew : wrap64 ((n : Int) + 1) = (n : Int) + 1 := by have := HN.out; unfold wrap64; omega
                  have ew2 : IntKind.i64.wrap ((n : Int) + 1) = (n : Int) + 1 := by have := HN.out; rw [IntKind.wrap_i64]; omega
                  have tl1 : decide ((n : Int) < (n : Int)) = false := decide_eq_false (by omega)
                  go_wp2_with fail
                  go_ret
                  exact ⟨rfl, BB.out⟩
                · have hml : 0 < m.length := Nat.pos_of_ne_zero (fun q => hm0 (List.eq_nil_of_length_eq_zero q))
                  obtain ⟨ml, hmle⟩ : ∃ q, m.length = q := ⟨_, rfl⟩
                  have HLE : Hid (ml ≤ n) := Lib.hid (by rw [← hmle, ← HM.out, ← LX.out]; exact ofR_len l xi)
                  have tz : ((ml : Int) == 0) = false := by simp; omega
                  obtain ⟨⟨lk, li, la⟩, hy⟩ : ∃ e, ith m (ml - 1) = e := ⟨_, rfl⟩
                  obtain ⟨b3, o3, hA3, hb3, d0, -, -⟩ := T3.out.prog.at_ (j := ml - 1) (by rw [hmle]; omega)
                  subst hA3
                  rw [show jO m (ml - 1) = lk by unfold jO; rw [hy]] at d0
                  obtain rfl : mm = (n : Int) := HNO.out hs
                  have tk : (kd == 1) = false := by simpa using k1
                  have ek : wrap64 ((ml : Int) - 1) = ((ml - 1 : Nat) : Int) := by have := HLE.out; have := HN.out; unfold wrap64; omega
                  have ek3 : IntKind.i64.wrap ((ml : Int) - 1) = ((ml - 1 : Nat) : Int) := by have := HLE.out; have := HN.out; rw [IntKind.wrap_i64]; omega
                  have ek2 : ml - 1 < ml := by omega
                  rw [hmle]
                  clear hml k1 hm0 T3 HMX hmle hy hs
                  obtain ⟨q0, q1, q2⟩ := KE.out.c3t
                  have lE := KE.out.lt
                  have tg : decide ((n : Int) + 1 < (n : Int)) = false := decide_eq_false (by omega)
                  have te : ((n : Int) == (n : Int) + 1) = false := by simp; omega
                  have te2 : ((n : Int) + 1 == (n : Int)) = false := by simp; omega
                  have ew : wrap64 ((n : Int) + 1) = (n : Int) + 1 := by have := HN.out; unfold wrap64; omega
                  have ew2 : IntKind.i64.wrap ((n : Int) + 1) = (n : Int) + 1 := by have := HN.out; rw [IntKind.wrap_i64]; omega
                  have tl1 : decide ((n : Int) < (n : Int)) = false := decide_eq_false (by omega)
                  go_wp2_with fail
                  go_ret
                  exact ⟨rfl, BB.out⟩
          · have hB := Lib.hid (Below.refl U0.heap.size U0)
            have HLU := Lib.hid (HL.out.below BB.out)
            have hp := Lib.hid (prog1_tr U0 41 hx)
            have ba := (Below.refl U0.heap.size U0).alloc (Nat.le_refl _) (.cells #[.int .i64 kd, .int .i64 xi, .int .i64 xa] 41)
            have hS1 := hS0.below ba hS0.lt
            replace hB := Lib.hid (below3 hB.out ba)
            clear ba
            unfold wpOp
            go_simp
            left
            refine wpAnyH_all (rs := [2]) (by kernel_rfl) (by simp) ?_
            intro i hi
            simp only [List.mem_cons, List.not_mem_nil, or_false] at hi
            subst hi
            refine wpOp_append_prog _ rfl rfl _ _ 23 rfl 41 _ rfl Tryd.underlying23 Tryd.evInfo U0.heap.size none 0 [] 0 rfl rfl (OwnP.nil_ _ _ _) A n c l rfl (HLU.out.below hB.out) (by simp; have := HN.out; omega) hB.out.size ?_
            intro D1 d1 X1 ow hg
            rw [List.nil_append] at ow ⊢
            have hB1 := Lib.hid (below3 hB.out (below_app0 hg))
            have HOW := Lib.hid ow
            replace hp := Lib.hid (hp.out.below (below_app0 hg))
            have hB2 := Lib.hid hB1.out
            have hS2 := hS0.below hB2.out hS0.lt
            clear ow hg hS1 hB1
            refine ⟨hS2, ?_⟩
            dsimp only [Act.put]
            refine wpAnyH_all (rs := [5]) (by kernel_rfl) (by simp) ?_
            intro i hi
            simp only [List.mem_cons, List.not_mem_nil, or_false] at hi
            subst hi
            refine wpOp_append_prog _ rfl rfl _ _ 23 rfl 41 _ rfl Tryd.underlying23 Tryd.evInfo U0.heap.size D1 d1 l l.length rfl rfl HOW.out (some ⟨U0.heap.size, 0, none⟩) 1 1 [(kd, xi, xa)] rfl hp.out (by have := LX.out; have := HN.out; omega) hB2.out.size ?_
            intro D2 d2 X2 ow hg
            have hB3 := Lib.hid (hB2.out.grown hg hB2.out.size HOW.out.block)
            have hS3 := hS0.below hB3.out hS0.lt
            have hll : (l ++ [(kd, xi, xa)]).length = n + 1 := by rw [List.length_append, LX.out]; rfl
            have hpp := ow.prog
            rw [hll] at hpp ⊢
            have HO2 := Lib.hid hpp
            clear ow hg hS2 hll hpp
            refine ⟨hS3, ?_⟩
            dsimp only [Act.put]
            refine wpAnyH_all (rs := [6]) (by kernel_rfl) (by simp) ?_
            intro i hi
            simp only [List.mem_cons, List.not_mem_nil, or_false] at hi
            subst hi
            unfold wpOp
            go_simp
            left
            have BB3 := Lib.hid (BB.out.trans (hB3.out.mono BB.out.size))
            refine (check_pr F D2 np cp (n + 1) d2 P (l ++ [(kd, xi, xa)]) _ (HF.out.le BB3.out) (HPP.out.below BB3.out) HO2.out).mono ?_
            rw [HC2.out]
            dsimp only
            rintro e U4 ⟨rfl, b4⟩
            replace hS3 := hS3.below b4 hS3.lt
            replace BB := Lib.hid (below3 BB3.out b4)
            refine ⟨hS3, ?_⟩
            clear hS0 b4 HO2 BB3 hB3 hB2 hp HOW HLU
            have hS0 := hS3
            clear hS3
            refine take_at (i := 7) (d := 39) (v := .tuple #[.int .i64 mm, .int .i64 0]) rfl rfl (by kernel_rfl) (by kernel_rfl) (by kernel_rfl) (fun _ _ _ h => h) (.inl ⟨by kernel_rfl, fun U hU => by go_simp⟩) hS0 ?_
            simp only [Act.put, List.setIfInBounds_toArray, List.set_cons_zero, List.set_cons_succ]
            refine take_at (i := 8) (d := 47) (v := .int .i64 mm) rfl rfl (by kernel_rfl) (by kernel_rfl) (by kernel_rfl) (fun _ _ _ h => h) (.inl ⟨by kernel_rfl, fun U hU => by go_simp⟩) hS0 ?_
            simp only [Act.put, List.setIfInBounds_toArray, List.set_cons_zero, List.set_cons_succ]
            refine take_at (i := 9) (d := 48) (v := .int .i64 0) rfl rfl (by kernel_rfl) (by kernel_rfl) (by kernel_rfl) (fun _ _ _ h => h) (.inl ⟨by kernel_rfl, fun U hU => by go_simp⟩) hS0 ?_
            simp only [Act.put, List.setIfInBounds_toArray, List.set_cons_zero, List.set_cons_succ]
            refine take_at (i := 10) (d := 10) (v := .int .i64 mm) rfl rfl (by kernel_rfl) (by kernel_rfl) (by kernel_rfl) (fun _ _ _ h => h) (.inl ⟨by kernel_rfl, fun U hU => by go_simp⟩) hS0 ?_
            simp only [Act.put, List.setIfInBounds_toArray, List.set_cons_zero, List.set_cons_succ]
            refine take_at (i := 11) (d := 11) (v := .int .i64 0) rfl rfl (by kernel_rfl) (by kernel_rfl) (by kernel_rfl) (fun _ _ _ h => h) (.inl ⟨by kernel_rfl, fun U hU => by go_simp⟩) hS0 ?_
            simp only [Act.put, List.setIfInBounds_toArray, List.set_cons_zero, List.set_cons_succ]
            refine wpAnyH_done (by kernel_rfl) ?_ _
            have KE := Lib.hid hS0
            clear hS0
            obtain ⟨qq0, qq1, qq2⟩ := KE.out.c3t
            have lqE := KE.out.lt
            go_wp2_with fail
            refine (of_pr A n c l xi _ (by have := HN.out; omega) (HL.out.below BB.out)).mono ?_
            unfold NewEv
            rw [HM.out]
            try dsimp only
            rintro e U41 ⟨A3, c3, rfl, ow, bU41⟩
            replace KE := Lib.hid (KE.out.below bU41 KE.out.lt)
            replace BB := Lib.hid (below3 BB.out bU41)
            clear bU41
            have T3 := Lib.hid ow
            clear ow qq0 qq1 qq2 lqE
            by_cases hm0 : m = []
            · subst hm0
              have hm := HM.out
              have HMX := Lib.hid hm
              by_cases k1 : kd = 1
              · by_cases k2 : 0 ≤ xi
                · by_cases k3 : 0 ≤ xa
                  · by_cases k4 : xa < (np : Int)
                    · obtain rfl : mm = (n : Int) + 1 := HYES.out (by rw [hm]; show (oneT P [(kd, xi, xa)]).isSome = true; rw [born_one]; exact (born_iff HNP.out (kd, xi, xa)).2 ⟨k1, k2, k3, by rw [PLN.out]; exact k4⟩)
                      have tk : (kd == 1) = true := by simpa using k1
                      have ti : decide (0 ≤ xi) = true := decide_eq_true k2
                      have ta : decide (0 ≤ xa) = true := decide_eq_true k3
                      have tb : decide (xa < (np : Int)) = true := decide_eq_true k4
                      clear hm T3 HMX
                      clear k1 k2 k3 k4
                      obtain ⟨q0, q1, q2⟩ := KE.out.c3t
                      have lE := KE.out.lt
                      have tg : decide ((n : Int) + 1 < (n : Int)) = false := decide_eq_false (by omega)
                      have te : ((n : Int) == (n : Int) + 1) = false := by simp; omega
                      have te2 : ((n : Int) + 1 == (n : Int)) = false := by simp; omega
                      have ew : wrap64 ((n : Int) + 1) = (n : Int) + 1 := by have := HN.out; unfold wrap64; omega
                      have ew2 : IntKind.i64.wrap ((n : Int) + 1) = (n : Int) + 1 := by have := HN.out; rw [IntKind.wrap_i64]; omega
                      have tl1 : decide ((n : Int) < (n : Int)) = false := decide_eq_false (by omega)
                      go_wp2_with fail
                      go_ret
                      exact ⟨rfl, BB.out⟩
                    · obtain rfl : mm = (n : Int) := HNO.out (by rw [hm]; show ¬ (oneT P [(kd, xi, xa)]).isSome = true; rw [born_one]; intro q; have q := (born_iff HNP.out (kd, xi, xa)).1 q; exact k4 (by have := q.2.2.2; rw [PLN.out] at this; exact this))
                      have tk : (kd == 1) = true := by simpa using k1
                      have ti : decide (0 ≤ xi) = true := decide_eq_true k2
                      have ta : decide (0 ≤ xa) = true := decide_eq_true k3
                      have tb : decide (xa < (np : Int)) = false := decide_eq_false k4
                      clear hm T3 HMX
                      clear k1 k2 k3 k4
                      obtain ⟨q0, q1, q2⟩ := KE.out.c3t
                      have lE := KE.out.lt
                      have tg : decide ((n : Int) + 1 < (n : Int)) = false := decide_eq_false (by omega)
                      have te : ((n : Int) == (n : Int) + 1) = false := by simp; omega
                      have te2 : ((n : Int) + 1 == (n : Int)) = false := by simp; omega
                      have ew : wrap64 ((n : Int) + 1) = (n : Int) + 1 := by have := HN.out; unfold wrap64; omega
                      have ew2 : IntKind.i64.wrap ((n : Int) + 1) = (n : Int) + 1 := by have := HN.out; rw [IntKind.wrap_i64]; omega
                      have tl1 : decide ((n : Int) < (n : Int)) = false := decide_eq_false (by omega)
                      go_wp2_with fail
                      go_ret
                      exact ⟨rfl, BB.out⟩
                  · obtain rfl : mm = (n : Int) := HNO.out (by rw [hm]; show ¬ (oneT P [(kd, xi, xa)]).isSome = true; rw [born_one]; intro q; have q := (born_iff HNP.out (kd, xi, xa)).1 q; exact k3 q.2.2.1)
                    have tk : (kd == 1) = true := by simpa using k1
                    have ti : decide (0 ≤ xi) = true := decide_eq_true k2
                    have ta : decide (0 ≤ xa) = false := decide_eq_false k3
                    clear hm T3 HMX
                    clear k1 k2 k3
                    obtain ⟨q0, q1, q2⟩ := KE.out.c3t
                    have lE := KE.out.lt
                    have tg : decide ((n : Int) + 1 < (n : Int)) = false := decide_eq_false (by omega)
                    have te : ((n : Int) == (n : Int) + 1) = false := by simp; omega
                    have te2 : ((n : Int) + 1 == (n : Int)) = false := by simp; omega
                    have ew : wrap64 ((n : Int) + 1) = (n : Int) + 1 := by have := HN.out; unfold wrap64; omega
                    have ew2 : IntKind.i64.wrap ((n : Int) + 1) = (n : Int) + 1 := by have := HN.out; rw [IntKind.wrap_i64]; omega
                    have tl1 : decide ((n : Int) < (n : Int)) = false := decide_eq_false (by omega)
                    go_wp2_with fail
                    go_ret
                    exact ⟨rfl, BB.out⟩
                · obtain rfl : mm = (n : Int) := HNO.out (by rw [hm]; show ¬ (oneT P [(kd, xi, xa)]).isSome = true; rw [born_one]; intro q; have q := (born_iff HNP.out (kd, xi, xa)).1 q; exact k2 q.2.1)
                  have tk : (kd == 1) = true := by simpa using k1
                  have ti : decide (0 ≤ xi) = false := decide_eq_false k2
                  clear hm T3 HMX
                  clear k1 k2
                  obtain ⟨q0, q1, q2⟩ := KE.out.c3t
                  have lE := KE.out.lt
                  have tg : decide ((n : Int) + 1 < (n : Int)) = false := decide_eq_false (by omega)
                  have te : ((n : Int) == (n : Int) + 1) = false := by simp; omega
                  have te2 : ((n : Int) + 1 == (n : Int)) = false := by simp; omega
                  have ew : wrap64 ((n : Int) + 1) = (n : Int) + 1 := by have := HN.out; unfold wrap64; omega
                  have ew2 : IntKind.i64.wrap ((n : Int) + 1) = (n : Int) + 1 := by have := HN.out; rw [IntKind.wrap_i64]; omega
                  have tl1 : decide ((n : Int) < (n : Int)) = false := decide_eq_false (by omega)
                  go_wp2_with fail
                  go_ret
                  exact ⟨rfl, BB.out⟩
              · obtain rfl : mm = (n : Int) := HNO.out (by rw [hm]; show ¬ (oneT P [(kd, xi, xa)]).isSome = true; rw [born_one]; intro q; have q := (born_iff HNP.out (kd, xi, xa)).1 q; exact k1 q.1)
                have tk : (kd == 1) = false := by simpa using k1
                clear hm T3 HMX
                clear k1
                obtain ⟨q0, q1, q2⟩ := KE.out.c3t
                have lE := KE.out.lt
                have tg : decide ((n : Int) + 1 < (n : Int)) = false := decide_eq_false (by omega)
                have te : ((n : Int) == (n : Int) + 1) = false := by simp; omega
                have te2 : ((n : Int) + 1 == (n : Int)) = false := by simp; omega
                have ew : wrap64 ((n : Int) + 1) = (n : Int) + 1 := by have := HN.out; unfold wrap64; omega
                have ew2 : IntKind.i64.wrap ((n : Int) + 1) = (n : Int) + 1 := by have := HN.out; rw [IntKind.wrap_i64]; omega
                have tl1 : decide ((n : Int) < (n : Int)) = false := decide_eq_false (by omega)
                go_wp2_with fail
                go_ret
                exact ⟨rfl, BB.out⟩
            · have HMX := HM
              by_cases k1 : kd = 1
              · have hml : 0 < m.length := Nat.pos_of_ne_zero (fun q => hm0 (List.eq_nil_of_length_eq_zero q))
                obtain ⟨ml, hmle⟩ : ∃ q, m.length = q := ⟨_, rfl⟩
                have HLE : Hid (ml ≤ n) := Lib.hid (by rw [← hmle, ← HM.out, ← LX.out]; exact ofR_len l xi)
                have tz : ((ml : Int) == 0) = false := by simp; omega
                obtain rfl : mm = (n : Int) := HNO.out (fun q => (more_end HOK.out hml (kd, xi, xa) (by rw [← HM.out]; exact q)).1 k1)
                have tk : (kd == 1) = true := by simpa using k1
                have TM := Lib.hid T3.out
                rw [hmle]
                clear hml k1 hm0 T3 TM HMX
                obtain ⟨q0, q1, q2⟩ := KE.out.c3t
                have lE := KE.out.lt
                have tg : decide ((n : Int) + 1 < (n : Int)) = false := decide_eq_false (by omega)
                have te : ((n : Int) == (n : Int) + 1) = false := by simp; omega
                have te2 : ((n : Int) + 1 == (n : Int)) = false := by simp; omega
                have ew : wrap64 ((n : Int) + 1) = (n : Int) + 1 := by have := HN.out; unfold wrap64; omega
                have ew2 : IntKind.i64.wrap ((n : Int) + 1) = (n : Int) + 1 := by have := HN.out; rw [IntKind.wrap_i64]; omega
                have tl1 : decide ((n : Int) < (n : Int)) = false := decide_eq_false (by omega)
                go_wp2_with fail
                go_ret
                exact ⟨rfl, BB.out⟩
              · by_cases hs : (oneT P (ofR l xi ++ [(kd, xi, xa)])).isSome = true
                · have hml : 0 < m.length := Nat.pos_of_ne_zero (fun q => hm0 (List.eq_nil_of_length_eq_zero q))
                  obtain ⟨ml, hmle⟩ : ∃ q, m.length = q := ⟨_, rfl⟩
                  have HLE : Hid (ml ≤ n) := Lib.hid (by rw [← hmle, ← HM.out, ← LX.out]; exact ofR_len l xi)
                  have tz : ((ml : Int) == 0) = false := by simp; omega
                  obtain ⟨⟨lk, li, la⟩, hy⟩ : ∃ e, ith m (ml - 1) = e := ⟨_, rfl⟩
                  obtain ⟨b3, o3, hA3, hb3, d0, -, -⟩ := T3.out.prog.at_ (j := ml - 1) (by rw [hmle]; omega)
                  subst hA3
                  rw [show jO m (ml - 1) = lk by unfold jO; rw [hy]] at d0
                  have hme := more_end HOK.out hml (kd, xi, xa) (by rw [← HM.out]; exact hs)
                  rw [hmle, hy] at hme
                  obtain rfl : mm = (n : Int) + 1 := HYES.out hs
                  have t5 : (lk != 5) = true := by simpa using hme.2.1
                  have t6 : (lk != 6) = true := by simpa using hme.2.2
                  clear hme
                  have tk : (kd == 1) = false := by simpa using k1
                  have ek : wrap64 ((ml : Int) - 1) = ((ml - 1 : Nat) : Int) := by have := HLE.out; have := HN.out; unfold wrap64; omega
                  have ek3 : IntKind.i64.wrap ((ml : Int) - 1) = ((ml - 1 : Nat) : Int) := by have := HLE.out; have := HN.out; rw [IntKind.wrap_i64]; omega
                  have ek2 : ml - 1 < ml := by omega
                  rw [hmle]
                  clear hml k1 hm0 T3 HMX hmle hy hs
                  obtain ⟨q0, q1, q2⟩ := KE.out.c3t
                  have lE := KE.out.lt
                  have tg : decide ((n : Int) + 1 < (n : Int)) = false := decide_eq_false (by omega)
                  have te : ((n : Int) == (n : Int) + 1) = false := by simp; omega
                  have te2 : ((n : Int) + 1 == (n : Int)) = false := by simp; omega
                  have ew : wrap64 ((n : Int) + 1) = (n : Int) + 1 := by have := HN.out; unfold wrap64; omega
                  have ew2 : IntKind.i64.wrap ((n : Int) + 1) = (n : Int) + 1 := by have := HN.out; rw [IntKind.wrap_i64]; omega
                  have tl1 : decide ((n : Int) < (n : Int)) = false := decide_eq_false (by omega)
                  go_wp2_with fail
                  go_ret
                  exact ⟨rfl, BB.out⟩
                · have hml : 0 < m.length := Nat.pos_of_ne_zero (fun q => hm0 (List.eq_nil_of_length_eq_zero q))
                  obtain ⟨ml, hmle⟩ : ∃ q, m.length = q := ⟨_, rfl⟩
                  have HLE : Hid (ml ≤ n) := Lib.hid (by rw [← hmle, ← HM.out, ← LX.out]; exact ofR_len l xi)
                  have tz : ((ml : Int) == 0) = false := by simp; omega
                  obtain ⟨⟨lk, li, la⟩, hy⟩ : ∃ e, ith m (ml - 1) = e := ⟨_, rfl⟩
                  obtain ⟨b3, o3, hA3, hb3, d0, -, -⟩ := T3.out.prog.at_ (j := ml - 1) (by rw [hmle]; omega)
                  subst hA3
                  rw [show jO m (ml - 1) = lk by unfold jO; rw [hy]] at d0
                  obtain rfl : mm = (n : Int) := HNO.out hs
                  have tk : (kd == 1) = false := by simpa using k1
                  have ek : wrap64 ((ml : Int) - 1) = ((ml - 1 : Nat) : Int) := by have := HLE.out; have := HN.out; unfold wrap64; omega
                  have ek3 : IntKind.i64.wrap ((ml : Int) - 1) = ((ml - 1 : Nat) : Int) := by have := HLE.out; have := HN.out; rw [IntKind.wrap_i64]; omega
                  have ek2 : ml - 1 < ml := by omega
                  rw [hmle]
                  clear hml k1 hm0 T3 HMX hmle hy hs
                  obtain ⟨q0, q1, q2⟩ := KE.out.c3t
                  have lE := KE.out.lt
                  have tg : decide ((n : Int) + 1 < (n : Int)) = false := decide_eq_false (by omega)
                  have te : ((n : Int) == (n : Int) + 1) = false := by simp; omega
                  have te2 : ((n : Int) + 1 == (n : Int)) = false := by simp; omega
                  have ew : wrap64 ((n : Int) + 1) = (n : Int) + 1 := by have := HN.out; unfold wrap64; omega
                  have ew2 : IntKind.i64.wrap ((n : Int) + 1) = (n : Int) + 1 := by have := HN.out; rw [IntKind.wrap_i64]; omega
                  have tl1 : decide ((n : Int) < (n : Int)) = false := decide_eq_false (by omega)
                  go_wp2_with fail
                  go_ret
                  exact ⟨rfl, BB.out⟩
        · obtain ⟨bd, hbd⟩ : ∃ b, badT P l = b := ⟨_, rfl⟩
          have HC1 : Hid (chkT P l = ((bd : Int), 0)) := Lib.hid (by rw [chkT_ok ⟨he, by have := LX.out; have := HN.out; omega⟩, hbd])
          have t1 : ((bd : Int) != (n : Int)) = true := by simp; intro q; exact hb (by rw [hbd, LX.out]; omega)
          clear he hb hbd
          obtain ⟨kb, hb0⟩ := lay1 w #[.int .i64 kd, .int .i64 xi, .int .i64 xa] 41
          obtain ⟨V, hV⟩ : ∃ V, w.alloc (.cells #[.int .i64 kd, .int .i64 xi, .int .i64 xa] 41) = V := ⟨_, rfl⟩
          rw [hV] at hb0 kb
          have HV := Lib.hid hV
          have BB := Lib.hid hb0
          have KE := Lib.hid kb
          clear hV hb0 kb
          go_enter Tryd.func7, Tryd.ntmps7
          go_upto_region 1 with fail
          rw [HV.out]
          clear HV
          go_wp2_with fail
          refine (live_any _ (HF.out.le BB.out)).mono ?_
          try dsimp only
          rintro e U1 ⟨rfl, bU1⟩
          replace KE := Lib.hid (KE.out.below bU1 KE.out.lt)
          replace BB := Lib.hid (below3 BB.out bU1)
          clear bU1
          go_wp2_with fail
          refine (few_any F np cp P _ (HPP.out.below BB.out)).mono ?_
          rw [HFW.out]
          try dsimp only
          rintro e U2 ⟨rfl, hw⟩
          have hw2 := hw.symm
          subst hw2
          clear hw
          go_wp2_with fail
          refine (check_pr F A np cp n c P l _ (HF.out.le BB.out) (HPP.out.below BB.out) (HL.out.below BB.out)).mono ?_
          rw [HC1.out]
          try dsimp only
          rintro e U3 ⟨rfl, bU3⟩
          replace KE := Lib.hid (KE.out.below bU3 KE.out.lt)
          replace BB := Lib.hid (below3 BB.out bU3)
          clear bU3
          go_wp2_with fail
          go_ret
          exact ⟨rfl, BB.out⟩
      · have HC1 : Hid (chkT P l = (0, 1)) := Lib.hid (chkT_no fun q => he q.1)
        clear he
        obtain ⟨kb, hb0⟩ := lay1 w #[.int .i64 kd, .int .i64 xi, .int .i64 xa] 41
        obtain ⟨V, hV⟩ : ∃ V, w.alloc (.cells #[.int .i64 kd, .int .i64 xi, .int .i64 xa] 41) = V := ⟨_, rfl⟩
        rw [hV] at hb0 kb
        have HV := Lib.hid hV
        have BB := Lib.hid hb0
        have KE := Lib.hid kb
        clear hV hb0 kb
        go_enter Tryd.func7, Tryd.ntmps7
        go_upto_region 1 with fail
        rw [HV.out]
        clear HV
        go_wp2_with fail
        refine (live_any _ (HF.out.le BB.out)).mono ?_
        try dsimp only
        rintro e U1 ⟨rfl, bU1⟩
        replace KE := Lib.hid (KE.out.below bU1 KE.out.lt)
        replace BB := Lib.hid (below3 BB.out bU1)
        clear bU1
        go_wp2_with fail
        refine (few_any F np cp P _ (HPP.out.below BB.out)).mono ?_
        rw [HFW.out]
        try dsimp only
        rintro e U2 ⟨rfl, hw⟩
        have hw2 := hw.symm
        subst hw2
        clear hw
        go_wp2_with fail
        refine (check_pr F A np cp n c P l _ (HF.out.le BB.out) (HPP.out.below BB.out) (HL.out.below BB.out)).mono ?_
        rw [HC1.out]
        try dsimp only
        rintro e U3 ⟨rfl, bU3⟩
        replace KE := Lib.hid (KE.out.below bU3 KE.out.lt)
        replace BB := Lib.hid (below3 BB.out bU3)
        clear bU3
        go_wp2_with fail
        go_ret
        exact ⟨rfl, BB.out⟩
    · have HFW := Lib.hid hfw
      have tn : decide (100 < (n : Int)) = true := decide_eq_true (by omega)
      have tnn : decide (100 < n) = true := decide_eq_true (by omega)
      clear hfw hn
      obtain ⟨kb, hb0⟩ := lay1 w #[.int .i64 kd, .int .i64 xi, .int .i64 xa] 41
      obtain ⟨V, hV⟩ : ∃ V, w.alloc (.cells #[.int .i64 kd, .int .i64 xi, .int .i64 xa] 41) = V := ⟨_, rfl⟩
      rw [hV] at hb0 kb
      have HV := Lib.hid hV
      have BB := Lib.hid hb0
      have KE := Lib.hid kb
      clear hV hb0 kb
      go_enter Tryd.func7, Tryd.ntmps7
      go_upto_region 1 with fail
      rw [HV.out]
      clear HV
      go_wp2_with fail
      refine (live_any _ (HF.out.le BB.out)).mono ?_
      try dsimp only
      rintro e U1 ⟨rfl, bU1⟩
      replace KE := Lib.hid (KE.out.below bU1 KE.out.lt)
      replace BB := Lib.hid (below3 BB.out bU1)
      clear bU1
      go_wp2_with fail
      refine (few_any F np cp P _ (HPP.out.below BB.out)).mono ?_
      rw [HFW.out]
      try dsimp only
      rintro e U2 ⟨rfl, hw⟩
      have hw2 := hw.symm
      subst hw2
      clear hw
      go_wp2_with fail
      go_ret
      exact ⟨rfl, BB.out⟩
  · have HFW : Hid (fewB P = false) := Lib.hid (by simpa using hfw)
    clear hfw
    obtain ⟨kb, hb0⟩ := lay1 w #[.int .i64 kd, .int .i64 xi, .int .i64 xa] 41
    obtain ⟨V, hV⟩ : ∃ V, w.alloc (.cells #[.int .i64 kd, .int .i64 xi, .int .i64 xa] 41) = V := ⟨_, rfl⟩
    rw [hV] at hb0 kb
    have HV := Lib.hid hV
    have BB := Lib.hid hb0
    have KE := Lib.hid kb
    clear hV hb0 kb
    go_enter Tryd.func7, Tryd.ntmps7
    go_upto_region 1 with fail
    rw [HV.out]
    clear HV
    go_wp2_with fail
    refine (live_any _ (HF.out.le BB.out)).mono ?_
    try dsimp only
    rintro e U1 ⟨rfl, bU1⟩
    replace KE := Lib.hid (KE.out.below bU1 KE.out.lt)
    replace BB := Lib.hid (below3 BB.out bU1)
    clear bU1
    go_wp2_with fail
    refine (few_any F np cp P _ (HPP.out.below BB.out)).mono ?_
    rw [HFW.out]
    try dsimp only
    rintro e U2 ⟨rfl, hw⟩
    have hw2 := hw.symm
    subst hw2
    clear hw
    go_wp2_with fail
    go_ret
    exact ⟨rfl, BB.out⟩

end Go.Proofs.YtfhlligcbpnkkaaDoor

/-
  The tied card of the law TraceMore of layer 18 holds, for every input, where the table of states reads as the program's own text lays it: an event that may come behind others is one of its task, that it may have. No condition beyond the row's own.
-/
namespace Go.Proofs.YtfhlligcbpnkkaaDoor
open Go.ChangeShapes Go.WideShapes Go.ChangeAt Go.RowKit

set_option maxRecDepth 100000 in
theorem lmore_gives {H : Type} (enc : TypeId × Value → H) : GivesL Fol enc 7 Tryd.f7.params.toList Rows.traceMoreSpec := by
  intro W base args ds p hval hA hsz hlt hL
  rw [Tryd.params7] at hA hval hsz
  obtain ⟨v0, vs0, d0, ds0, p0, q0, hargs, rfl, rfl, h0, r0⟩ := trodAll_cons hA
  obtain ⟨v1, vs1, d1, ds1, p1, q1, rfl, rfl, rfl, h1, r1⟩ := trodAll_cons r0
  obtain ⟨v2, vs2, d2, ds2, p2, q2, rfl, rfl, rfl, h2, r2⟩ := trodAll_cons r1
  obtain ⟨rfl, rfl, rfl⟩ := trodAll_nil r2
  obtain rfl : args = #[v0, v1, v2] := by cases args; simp_all
  refine ⟨rfl, ?_⟩
  obtain ⟨A0, n0, c0, l0, rfl, hx0⟩ := open_prgs (hval 0 22 v0 rfl rfl) h0 (fun x hx => hlt x (by simp [hx]))
  obtain ⟨A1, n1, c1, l1, rfl, hx1⟩ := open_evs (hval 1 23 v1 rfl rfl) h1 (fun x hx => hlt x (by simp [hx]))
  obtain ⟨x2, y2, z2, rfl, fx2⟩ := open_ev (hval 2 41 v2 rfl rfl) h2
  exact lmore_any A0 A1 n0 c0 n1 c1 l0 l1 (x2, y2, z2) W hL hx0 hx1 fx2

set_option maxRecDepth 100000 in
theorem lmore_lifted (os : Os) (started : os.Started) (H : Type) (enc : TypeId × Value → H) :
    ReturnsInHanded {} Tryd.checked os 7 .any (fun w args => (Rows.traceMoreSpec.pre enc Tryd.prog Tryd.f7 Rows.traceMoreRow.domain false w args ∧ laidMetH Tryd.prog [("ravel/life.follows", Rows.laid_ravel_life_follows)] w) ∧ sizedMet enc Tryd.prog Tryd.f7 (OpenSpec.ofChange Rows.traceMoreSpec) false w args) (Rows.traceMoreSpec.post enc Tryd.prog Tryd.f7 false true false false) :=
  lawL_lifted os started 7 Tryd.f7 Rows.traceMoreSpec [("ravel/life.follows", Rows.laid_ravel_life_follows)] Fol fol_of_laid rfl rfl (by kernel_rfl) Tryd.func7 (by kernel_rfl) (by kernel_rfl)
    (ChangeSpec.witness_shaped (enc := enc) (C := Tryd.checked) (os := os) (X := fun w _ => laidMetH Tryd.prog [("ravel/life.follows", Rows.laid_ravel_life_follows)] w) false (World.laidAll Tryd.prog os [("ravel/life.follows", Rows.laid_ravel_life_follows)]) #[.slice none 0 0, .slice none 0 0, .agg #[.int .i64 0, .int .i64 0, .int .i64 0]] 8 (World.laidAll_os _ _ _)
      (World.shaped_of_ZipB (by kernel_rfl) (by kernel_rfl)) (by kernel_rfl) (by kernel_rfl) (by kernel_rfl) (by rw [MakeChecks.laidMetH_plain _ _ _ (by kernel_rfl)]; exact laidMet_laidAll _ (by kernel_rfl) (by kernel_rfl)))
    (lmore_gives enc)

set_option maxRecDepth 100000 in
theorem TraceMore_row : Rows.TraceMoreSaid :=
  OpenClaim.holds_of_wide 7 Tryd.f7 rfl rfl rfl rfl rfl rfl rfl ⟨rfl, rfl, rfl, rfl, rfl⟩ rfl rfl rfl rfl rfl (by kernel_rfl) Tryd.func7 (by kernel_rfl)
    (of_decide_eq_true (by kernel_rfl)) (by unfold Func.isWrapper; first | (rw [if_pos (by decide +kernel)]; kernel_rfl) | (rw [if_neg (by decide +kernel)]; exact ⟨rfl, rfl⟩))
    (fun os started H enc _ => lmore_lifted os started H enc)

set_option maxRecDepth 100000 in
theorem TraceMore_holds : Rows.TraceMoreCardSaid :=
  Claim7.holds_tied_plain_at .later [] [.data] true Rows.traceMoreCard.stood.harness false
    TraceMore_row (fun _ h => by cases h) (by kernel_rfl) (fun _ h => by cases h) traceMore_row_tie rfl ⟨rfl, rfl⟩ (by kernel_rfl) (by kernel_rfl)
    (fun f fn hf hfn => by
      obtain rfl : f = 7 := Option.some.inj ((show Tryd.prog.funcNamed "ravel/ravellaw18.TraceMore" = some 7 by kernel_rfl).symm.trans hf) |>.symm
      obtain rfl : fn = Tryd.f7 := (Option.some.inj (Tryd.func7.symm.trans hfn)).symm
      exact ⟨by kernel_rfl, fun j t ht => by
        rw [Tryd.params7] at ht
        have hm : t ∈ [22, 23, 41] := by simpa using Array.mem_of_getElem? ht
        have hall : ([22, 23, 41].all fun u => !Tryd.prog.wantsStandIn u) = true := by kernel_rfl
        exact (show Tryd.prog.wantsStandIn t = false by simpa using List.all_eq_true.1 hall t hm)⟩)
    (by kernel_rfl)

#print axioms TraceMore_holds
end Go.Proofs.YtfhlligcbpnkkaaDoor

/-
  Layer 17, the program: change.
-/
import Derived.Test.YtmndkofdoclihaaWof
import Derived.Test.YtmndkofdoclihaaCalmT
namespace Go.Proofs.Ytmndkofdoclihaa
open Go.RowKit

section
variable {P : Program} {ops : Array Oper} {S : World → Prop}
/-- A call of a function of three arguments, by its contract. -/
theorem calm_call3w {o : Oper} {v : Value} {a : Act} (hw : Region.wanted o (yielded ops a.tmps) = true) (f : FuncId) (x y z : Operand) (ts : Array TypeId) (ho : o.op = .call { callee := .value (.func f), args := #[x, y, z], argTypes := ts })
    (he : ∀ args w, (callFunc f args).run P w = .ok (.enter f args) w) (u u' u'' : Value) (hx : a.eval x = u) (hy : a.eval y = u') (hz : a.eval z = u'') (hc : ∀ w, S w → Calls P f #[u, u', u''] w fun e w' => e = .returned v ∧ S w') : Calm P ops S o v a :=
  .inl ⟨hw, fun w hS => by
    have : (execOp a.eval o).run P w = .ok (.enter f #[u, u', u'']) w := by
      unfold execOp
      simp only [ho, resolve, List.map_toArray, List.map_cons, List.map_nil, hx, hy, hz]
      simp [Act.eval, Deferred.ofValue, invoke, he]
    rw [this]
    exact hc w hS⟩
end

theorem OwnI.neBk {E T : TypeId} {w : World} {base g : Nat} {A : Option Addr} {c : Nat} {zs : List Int} {cs : Array Value} (h : OwnI E w base A c zs) (hk : Bk w g T cs) (hT : E ≠ T) : blkW A ≠ some g := fun e => by
  obtain ⟨cs', hk'⟩ := h.que.type (n := 0) (d := 0) e
  have : (Obj.cells cs' E (0, 0)) = Obj.cells cs T (0, 0) := by
    have h1 : w.heap[g]? = _ := hk'
    have h2 : w.heap[g]? = _ := hk
    rw [h1] at h2
    injection h2
  injection this with _ h3 _
  exact hT h3
theorem OwnW.apart {T : TypeId} {w : World} {base g j : Nat} {A B : Option Addr} {a b : Nat} {is st : List Int} {cs : Array Value} (h : OwnW w base A a B b is st) (hk : Bk w g T cs) (hT : 3 ≠ T) (v : Value) : OwnW (w.setCell ⟨g, j, none⟩ v) base A a B b is st := by
  obtain ⟨m, h1, h2, h3⟩ := h.sx
  exact ⟨h.i.otherW (h.i.neBk hk hT) v, m, h1, h2.otherW (h2.neBk hk hT) v, h3⟩
theorem OwnW.room {w : World} {base : Nat} {A B : Option Addr} {a b : Nat} {is st : List Int} (h : OwnW w base A a B b is st) (hb : base ≤ w.heap.size) : ∃ m, m ≤ w.heap.size ∧ base ≤ m ∧ OwnI 3 w m B b st ∧ ∀ k, blkW A = some k → k < m := by
  obtain ⟨m, h1, h2, h3⟩ := h.sx
  exact ⟨min m w.heap.size, Nat.min_le_right _ _, by omega, h2.base (Nat.min_le_left _ _), fun k e => by have := h3 k e; have := (h.i.blkW_lt k e).2; omega⟩
theorem OwnW.appS {w w' : World} {base m : Nat} {A B B' : Option Addr} {a b b' : Nat} {is st su : List Int} (h : OwnW w base A a B b is st) (hg : w.grownBy w' (blkW B)) (ho : OwnI 3 w' m B' b' su) (hb : base ≤ m) (hm : ∀ k, blkW A = some k → k < m) : OwnW w' base A a B' b' is su := by
  have hap := h.ap
  refine ⟨h.i.grown hg ?_, m, hb, ho, hm⟩
  rw [blk_anyW]
  cases hA : blkW A with
  | none => exact .inl rfl
  | some k => exact .inr fun e => hap k hA e.symm
theorem chg_1 {is st : List Int} {i tt : Int} {fs : List Int} (h : ¬ inWo is st i) : chgWo is st i tt fs = ([], [], 1) := if_neg h
theorem chg_9 {is st : List Int} {i tt : Int} {fs : List Int} (h : inWo is st i) (hf : nth is i.toNat ∉ fs) : chgWo is st i tt fs = ([], [], 9) := by
  unfold chgWo; rw [if_pos h, if_neg hf]
theorem chg_out {is st : List Int} {i tt : Int} {fs : List Int} (h : inWo is st i) (hf : nth is i.toNat ∈ fs) (ht : ¬ (tt = 2 ∨ tt = 3)) : chgWo is st i tt fs = (is.set i.toNat tt, butBt st i, 0) := by
  unfold chgWo; rw [if_pos h, if_pos hf, if_neg ht]
theorem chg_same {is st : List Int} {i tt : Int} {fs : List Int} (h : inWo is st i) (hf : nth is i.toNat ∈ fs) (ht : tt = 2 ∨ tt = 3) (hw : nth is i.toNat = 2 ∨ nth is i.toNat = 3) : chgWo is st i tt fs = (is.set i.toNat tt, st, 0) := by
  unfold chgWo; rw [if_pos h, if_pos hf, if_pos ht, if_pos hw]
theorem chg_app {is st : List Int} {i tt : Int} {fs : List Int} (h : inWo is st i) (hf : nth is i.toNat ∈ fs) (ht : tt = 2 ∨ tt = 3) (hw : ¬ (nth is i.toNat = 2 ∨ nth is i.toNat = 3)) : chgWo is st i tt fs = (is.set i.toNat tt, st ++ [i], 0) := by
  unfold chgWo; rw [if_pos h, if_pos hf, if_pos ht, if_neg hw]

set_option maxHeartbeats 8000000 in
theorem change_wo (A B F : Option Addr) (n a m b k c : Nat) (is st fs : List Int) (i tt : Int) (w : World) (hi : Ints w A n is) (hs : Ints w B m st) (hf : Ints w F k fs) (ht : 0 ≤ tt ∧ tt ≤ 3) :
    Calls Try.prog 28 #[.agg #[.slice A n a, .slice B m b], .int .i64 i, .int .i64 tt, .slice F k c] w (ChgW (chgWo is st i tt fs) w) := by
  by_cases hok : okWo is st
  · by_cases hin : 0 ≤ i ∧ i < n
    · have hiw : inWo is st i := ⟨hok, hin.1, by have := hi.1; omega⟩
      obtain ⟨j, rfl⟩ := Int.eq_ofNat_of_zero_le hin.1
      have hjn : j < n := by omega
      have hjl : j < is.length := by have := hi.1; omega
      have h03 := fours_at hok.2.1 hjl
      have hn64 : is.length ≤ 64 := hok.1.2
      have hmst := hs.2.1
      obtain ⟨f, hfz⟩ : ∃ f : Nat, nth is j = (f : Int) := ⟨(nth is j).toNat, by omega⟩
      have hf4 : f < 4 := by omega
      obtain ⟨t, rfl⟩ := Int.eq_ofNat_of_zero_le ht.1
      have ht4 : t < 4 := by omega
      have hzj : nth is (((j : Nat) : Int)).toNat = (f : Int) := by rw [Int.toNat_natCast]; exact hfz
      obtain ⟨bS, o, rfl, hb, c0⟩ := hi.at_bt hjn
      rw [hfz] at c0
      by_cases hmem : (f : Int) ∈ fs
      · by_cases h2 : (t : Int) = 2 ∨ (t : Int) = 3
        · by_cases h3 : (f : Int) = 2 ∨ (f : Int) = 3
          · rw [chg_same hiw (by rw [hzj]; exact hmem) h2 (by rw [hzj]; exact h3), Int.toNat_natCast]
            have HT := Lib.hid fun U hU => tally_wo (some ⟨bS, o, none⟩) B n a m b is st U (hi.below hU) (hs.below hU)
            have HTR := Lib.hid (tallyR_ok hok)
            obtain ⟨kb0, kb1, kb2, kb3, hb0⟩ := lies4w w #[.slice (some ⟨bS, o, none⟩) n a, .slice B m b] #[.int .i64 (j : Int)] #[.slice none 0 0, .slice none 0 0] #[.int .i64 0, .int .i64 0, .int .i64 0, .int .i64 0] 24 3 24 46
            obtain ⟨V, hV⟩ : ∃ V, (((w.alloc (.cells #[.slice (some ⟨bS, o, none⟩) n a, .slice B m b] 24)).alloc (.cells #[.int .i64 (j : Int)] 3)).alloc (.cells #[.slice none 0 0, .slice none 0 0] 24)).alloc (.cells #[.int .i64 0, .int .i64 0, .int .i64 0, .int .i64 0] 46) = V := ⟨_, rfl⟩
            rw [hV] at hb0 kb0 kb1 kb2 kb3
            have HV := Lib.hid hV
            have BB := Lib.hid hb0
            have KD := Lib.hid kb0
            have HBD : Hid (w.heap.size ≤ w.heap.size) := Lib.hid (by omega)
            have KI := Lib.hid kb1
            have HBI : Hid (w.heap.size ≤ (w.heap.size + 1)) := Lib.hid (by omega)
            have OD_I : Hid (w.heap.size < (w.heap.size + 1)) := Lib.hid (by omega)
            have KR := Lib.hid kb2
            have HBR : Hid (w.heap.size ≤ (w.heap.size + 1 + 1)) := Lib.hid (by omega)
            have OD_R : Hid (w.heap.size < (w.heap.size + 1 + 1)) := Lib.hid (by omega)
            have OI_R : Hid ((w.heap.size + 1) < (w.heap.size + 1 + 1)) := Lib.hid (by omega)
            have KQ := Lib.hid kb3
            have HBQ : Hid (w.heap.size ≤ (w.heap.size + 1 + 1 + 1)) := Lib.hid (by omega)
            have OD_Q : Hid (w.heap.size < (w.heap.size + 1 + 1 + 1)) := Lib.hid (by omega)
            have OI_Q : Hid ((w.heap.size + 1) < (w.heap.size + 1 + 1 + 1)) := Lib.hid (by omega)
            have OR_Q : Hid ((w.heap.size + 1 + 1) < (w.heap.size + 1 + 1 + 1)) := Lib.hid (by omega)
            clear hV hb0 kb0 kb1 kb2 kb3
            go_enter Try.func28, Try.ntmps28
            go_upto_region 1 with fail
            rw [HV.out]
            clear HV
            obtain ⟨qD_0, qD_1⟩ := KD.out.c2w
            have lD := KD.out.lt
            go_wp2_with fail
            refine (HT.out _ BB.out).mono ?_
            rw [HTR.out]
            try dsimp only
            rintro e U1 ⟨rfl, bU1⟩
            clear qD_0 qD_1 lD
            replace KD := Lib.hid (KD.out.below bU1 KD.out.lt)
            replace KI := Lib.hid (KI.out.below bU1 KI.out.lt)
            replace KR := Lib.hid (KR.out.below bU1 KR.out.lt)
            replace KQ := Lib.hid (KQ.out.below bU1 KQ.out.lt)
            replace BB := Lib.hid (below3 BB.out bU1)
            clear bU1
            have kt := Bk.new U1 46 #[.int .i64 (manyWo is 0 : Int), .int .i64 (manyWo is 1 : Int), .int .i64 (manyWo is 2 : Int), .int .i64 (manyWo is 3 : Int)]
            have ba := (Below.refl U1.heap.size U1).alloc (Nat.le_refl _) (.cells #[.int .i64 (manyWo is 0 : Int), .int .i64 (manyWo is 1 : Int), .int .i64 (manyWo is 2 : Int), .int .i64 (manyWo is 3 : Int)] 46)
            have oD := KD.out.lt
            have oI := KI.out.lt
            have oR := KR.out.lt
            have oQ := KQ.out.lt
            have hgb := BB.out.size
            replace KD := Lib.hid (KD.out.below ba KD.out.lt)
            replace KI := Lib.hid (KI.out.below ba KI.out.lt)
            replace KR := Lib.hid (KR.out.below ba KR.out.lt)
            replace KQ := Lib.hid (KQ.out.below ba KQ.out.lt)
            replace BB := Lib.hid (below3 BB.out ba)
            clear ba
            obtain ⟨W2, hW⟩ : ∃ W, U1.alloc (.cells #[.int .i64 (manyWo is 0 : Int), .int .i64 (manyWo is 1 : Int), .int .i64 (manyWo is 2 : Int), .int .i64 (manyWo is 3 : Int)] 46) = W := ⟨_, rfl⟩
            obtain ⟨gT, hg⟩ : ∃ g, U1.heap.size = g := ⟨_, rfl⟩
            rw [hW] at kt BB KD KI KR KQ
            rw [hg] at kt hgb oD oI oR oQ
            have HW := Lib.hid hW
            have HG := Lib.hid hg
            have KT := Lib.hid kt
            have HBT := Lib.hid hgb
            have OD_T := Lib.hid oD
            have OI_T := Lib.hid oI
            have OR_T := Lib.hid oR
            have OQ_T := Lib.hid oQ
            clear hW hg kt hgb oD oI oR oQ
            go_upto_region 2 with fail
            rw [HW.out]
            try rw [HG.out]
            clear HW HG
            obtain ⟨qD_0, qD_1⟩ := KD.out.c2w
            have lD := KD.out.lt
            have qI_0 := KI.out.one
            have lI := KI.out.lt
            go_wp2_with fail
            refine (isone_wo (some ⟨bS, o, none⟩) B n a m b (j : Int) _).mono ?_
            rw [decide_eq_true hin]
            try dsimp only
            rintro e U3 ⟨rfl, bU3⟩
            clear qD_0 qD_1 lD qI_0 lI
            replace KD := Lib.hid (KD.out.below bU3 KD.out.lt)
            replace KI := Lib.hid (KI.out.below bU3 KI.out.lt)
            replace KR := Lib.hid (KR.out.below bU3 KR.out.lt)
            replace KQ := Lib.hid (KQ.out.below bU3 KQ.out.lt)
            replace KT := Lib.hid (KT.out.below bU3 KT.out.lt)
            replace BB := Lib.hid (below3 BB.out bU3)
            clear bU3
            obtain ⟨qD_0, qD_1⟩ := KD.out.c2w
            have lD := KD.out.lt
            have qI_0 := KI.out.one
            have lI := KI.out.lt
            have c1 := (BB.out.cell (p := ⟨bS, o + j, none⟩) hb).trans c0
            have lb := Nat.lt_of_lt_of_le hb BB.out.size
            go_wp2_with fail
            refine (contains_wo (f : Int) F k c fs _ (hf.below BB.out)).mono ?_
            rw [decide_eq_true hmem]
            try dsimp only
            rintro e U4 ⟨rfl, bU4⟩
            clear qD_0 qD_1 lD qI_0 lI c1 lb
            replace KD := Lib.hid (KD.out.below bU4 KD.out.lt)
            replace KI := Lib.hid (KI.out.below bU4 KI.out.lt)
            replace KR := Lib.hid (KR.out.below bU4 KR.out.lt)
            replace KQ := Lib.hid (KQ.out.below bU4 KQ.out.lt)
            replace KT := Lib.hid (KT.out.below bU4 KT.out.lt)
            replace BB := Lib.hid (below3 BB.out bU4)
            clear bU4
            have HMV := Lib.hid fun U => moved_wo is j f t hjl hf4 ht4 hfz hn64 U
            clear hok HT HTR c0 hb hmem
            obtain ⟨qD_0, qD_1⟩ := KD.out.c2w
            have lD := KD.out.lt
            go_wp2_with fail
            refine (clone_wo (some ⟨bS, o, none⟩) B n a m b is st _ (hi.below BB.out) (hs.below BB.out)).mono ?_
            try dsimp only
            rintro e U5 ⟨Ac, ac, Bc, bc, he, ow, bU5⟩
            try dsimp only at he ow
            subst he
            clear qD_0 qD_1 lD
            obtain ⟨gc, rfl, hga, hgl, -, -⟩ := ow.i.form (by omega)
            have OD_c : Hid (w.heap.size < gc) := Lib.hid (by have := KD.out.lt; omega)
            have OI_c : Hid ((w.heap.size + 1) < gc) := Lib.hid (by have := KI.out.lt; omega)
            have OR_c : Hid ((w.heap.size + 1 + 1) < gc) := Lib.hid (by have := KR.out.lt; omega)
            have OQ_c : Hid ((w.heap.size + 1 + 1 + 1) < gc) := Lib.hid (by have := KQ.out.lt; omega)
            have OT_c : Hid (gT < gc) := Lib.hid (by have := KT.out.lt; omega)
            have HBc : Hid (w.heap.size ≤ gc) := Lib.hid (by have := BB.out.size; omega)
            clear hga hgl
            have LD_c : Hid (w.heap.size < U4.heap.size) := Lib.hid KD.out.lt
            have LI_c : Hid ((w.heap.size + 1) < U4.heap.size) := Lib.hid KI.out.lt
            have LR_c : Hid ((w.heap.size + 1 + 1) < U4.heap.size) := Lib.hid KR.out.lt
            have LQ_c : Hid ((w.heap.size + 1 + 1 + 1) < U4.heap.size) := Lib.hid KQ.out.lt
            have LT_c : Hid (gT < U4.heap.size) := Lib.hid KT.out.lt
            have HBBc : Hid (w.heap.size ≤ U4.heap.size) := Lib.hid BB.out.size
            have Rc := Lib.hid ow
            clear ow
            replace KD := Lib.hid (KD.out.below bU5 KD.out.lt)
            replace KI := Lib.hid (KI.out.below bU5 KI.out.lt)
            replace KR := Lib.hid (KR.out.below bU5 KR.out.lt)
            replace KQ := Lib.hid (KQ.out.below bU5 KQ.out.lt)
            replace KT := Lib.hid (KT.out.below bU5 KT.out.lt)
            replace BB := Lib.hid (below3 BB.out bU5)
            clear bU5
            have kt := Bk.new U5 24 #[.slice (some ⟨gc, 0, none⟩) is.length ac, .slice Bc st.length bc]
            have ba := (Below.refl U5.heap.size U5).alloc (Nat.le_refl _) (.cells #[.slice (some ⟨gc, 0, none⟩) is.length ac, .slice Bc st.length bc] 24)
            have oD := KD.out.lt
            have oI := KI.out.lt
            have oR := KR.out.lt
            have oQ := KQ.out.lt
            have oT := KT.out.lt
            have oc := Rc.out.i.lt
            have hgb := BB.out.size
            replace KD := Lib.hid (KD.out.below ba KD.out.lt)
            replace KI := Lib.hid (KI.out.below ba KI.out.lt)
            replace KR := Lib.hid (KR.out.below ba KR.out.lt)
            replace KQ := Lib.hid (KQ.out.below ba KQ.out.lt)
            replace KT := Lib.hid (KT.out.below ba KT.out.lt)
            replace Rc := Lib.hid (Rc.out.below ba)
            replace BB := Lib.hid (below3 BB.out ba)
            clear ba
            obtain ⟨W6, hW⟩ : ∃ W, U5.alloc (.cells #[.slice (some ⟨gc, 0, none⟩) is.length ac, .slice Bc st.length bc] 24) = W := ⟨_, rfl⟩
            obtain ⟨gN, hg⟩ : ∃ g, U5.heap.size = g := ⟨_, rfl⟩
            rw [hW] at kt BB KD KI KR KQ KT Rc
            rw [hg] at kt hgb oD oI oR oQ oT oc
            have HW := Lib.hid hW
            have HG := Lib.hid hg
            have KN := Lib.hid kt
            have HBN := Lib.hid hgb
            have OD_N := Lib.hid oD
            have OI_N := Lib.hid oI
            have OR_N := Lib.hid oR
            have OQ_N := Lib.hid oQ
            have OT_N := Lib.hid oT
            have Oc_N := Lib.hid oc
            clear hW hg kt hgb oD oI oR oQ oT oc
            go_upto_region 8 with fail
            rw [HW.out]
            try rw [HG.out]
            clear HW HG
            obtain ⟨c0, f0⟩ := Rc.out.i.at_ (j := j) hjl
            have lc := Rc.out.i.lt
            obtain ⟨qN_0, qN_1⟩ := KN.out.c2w
            have lN := KN.out.lt
            have qI_0 := KI.out.one
            have lI := KI.out.lt
            have x0 := Rc.out.setI j (x := (t : Int)) (by unfold Fit; omega)
            have xb := BB.out.setCell (p := ⟨gc, j, none⟩) HBc.out (.int .i64 (t : Int))
            have xD := KD.out.far (p := ⟨gc, j, none⟩) (Nat.ne_of_lt OD_c.out) (.int .i64 (t : Int))
            have xI := KI.out.far (p := ⟨gc, j, none⟩) (Nat.ne_of_lt OI_c.out) (.int .i64 (t : Int))
            have xR := KR.out.far (p := ⟨gc, j, none⟩) (Nat.ne_of_lt OR_c.out) (.int .i64 (t : Int))
            have xQ := KQ.out.far (p := ⟨gc, j, none⟩) (Nat.ne_of_lt OQ_c.out) (.int .i64 (t : Int))
            have xT := KT.out.far (p := ⟨gc, j, none⟩) (Nat.ne_of_lt OT_c.out) (.int .i64 (t : Int))
            have xN := KN.out.far (p := ⟨gc, j, none⟩) (Nat.ne_of_gt Oc_N.out) (.int .i64 (t : Int))
            obtain ⟨X6, hX⟩ : ∃ X, W6.setCell ⟨gc, j, none⟩ (.int .i64 (t : Int)) = X := ⟨_, rfl⟩
            rw [hX] at x0 xb xD xI xR xQ xT xN
            have HX := Lib.hid hX
            replace Rc := Lib.hid x0
            replace BB := Lib.hid xb
            replace KD := Lib.hid xD
            replace KI := Lib.hid xI
            replace KR := Lib.hid xR
            replace KQ := Lib.hid xQ
            replace KT := Lib.hid xT
            replace KN := Lib.hid xN
            clear hX x0 xb xD xI xR xQ xT xN
            go_upto_region 9 with fail
            rw [HX.out]
            clear HX
            clear qN_0 qN_1 lN qI_0 lI c0 f0 lc
            go_wp2_with fail
            refine (rests_wo (t : Int) _).mono ?_
            rw [decide_eq_true h2]
            rintro e U8 ⟨rfl, hw⟩
            have hw2 := hw.symm
            subst hw2
            clear hw
            go_wp2_with fail
            refine (rests_wo (f : Int) _).mono ?_
            rw [decide_eq_true h3]
            rintro e U9 ⟨rfl, hw⟩
            have hw2 := hw.symm
            subst hw2
            clear hw
            clear h2 h3
            go_upto_region 13 with fail
            obtain ⟨qN_0, qN_1⟩ := KN.out.c2w
            have lN := KN.out.lt
            obtain ⟨qT_0, qT_1, qT_2, qT_3⟩ := KT.out.c4w
            have lT := KT.out.lt
            refine calmT_region 5 (S := fun U => Below X6.heap.size X6 U) (by kernel_rfl) (by kernel_rfl) (Below.refl _ _).drew ?_
            refine calmT_to (i := 0) (t := 67) (v := .agg #[.slice (some ⟨gc, 0, none⟩) is.length ac, .slice Bc st.length bc]) rfl rfl (by decide) (by kernel_rfl) (by kernel_rfl) (fun _ _ _ h => h) (calm_of (by kernel_rfl) (fun U hU => by have e0 := (hU.cell (p := ⟨gN, 0, none⟩) lN).trans qN_0; have e1 := (hU.cell (p := ⟨gN, 1, none⟩) lN).trans qN_1; have el := Nat.lt_of_lt_of_le lN hU.size; go_simp)) ?_
            simp only [List.setIfInBounds_toArray, List.set_cons_zero, List.set_cons_succ]
            refine calmT_to (i := 1) (t := 68) (v := .agg #[.int .i64 (manyWo is 0 : Int), .int .i64 (manyWo is 1 : Int), .int .i64 (manyWo is 2 : Int), .int .i64 (manyWo is 3 : Int)]) rfl rfl (by decide) (by kernel_rfl) (by kernel_rfl) (fun _ _ _ h => h) (calm_of (by kernel_rfl) (fun U hU => by have e0 := (hU.cell (p := ⟨gT, 0, none⟩) lT).trans qT_0; have e1 := (hU.cell (p := ⟨gT, 1, none⟩) lT).trans qT_1; have e2 := (hU.cell (p := ⟨gT, 2, none⟩) lT).trans qT_2; have e3 := (hU.cell (p := ⟨gT, 3, none⟩) lT).trans qT_3; have el := Nat.lt_of_lt_of_le lT hU.size; go_simp)) ?_
            simp only [List.setIfInBounds_toArray, List.set_cons_zero, List.set_cons_succ]
            refine calmT_to (i := 2) (t := 69) (v := .int .i64 (f : Int)) rfl rfl (by decide) (by kernel_rfl) (by kernel_rfl) (fun _ _ _ h => h) (calm_move (by kernel_rfl) (.tmp 13) (.inl rfl) rfl) ?_
            simp only [List.setIfInBounds_toArray, List.set_cons_zero, List.set_cons_succ]
            refine calmT_to (i := 3) (t := 70) (v := .int .i64 (t : Int)) rfl rfl (by decide) (by kernel_rfl) (by kernel_rfl) (fun _ _ _ h => h) (calm_move (by kernel_rfl) (.tmp 2) (.inl rfl) rfl) ?_
            simp only [List.setIfInBounds_toArray, List.set_cons_zero, List.set_cons_succ]
            refine calmT_to (i := 4) (t := 71) (v := .agg #[.int .i64 (manyWo (is.set j (t : Int)) 0 : Int), .int .i64 (manyWo (is.set j (t : Int)) 1 : Int), .int .i64 (manyWo (is.set j (t : Int)) 2 : Int), .int .i64 (manyWo (is.set j (t : Int)) 3 : Int)]) rfl rfl (by decide) (by kernel_rfl) (by kernel_rfl) (fun _ _ _ h => h) (calm_call3w (by kernel_rfl) 46 (.tmp 68) (.tmp 69) (.tmp 70) #[46, 3, 3] rfl (enters_of Try.func46 (by kernel_rfl) rfl) (.agg #[.int .i64 (manyWo is 0 : Int), .int .i64 (manyWo is 1 : Int), .int .i64 (manyWo is 2 : Int), .int .i64 (manyWo is 3 : Int)]) (.int .i64 (f : Int)) (.int .i64 (t : Int)) rfl rfl rfl (fun U hU => (HMV.out U).mono fun _ _ q => ⟨q.1, below3 hU q.2⟩)) ?_
            simp only [List.setIfInBounds_toArray, List.set_cons_zero, List.set_cons_succ]
            refine calmT_done _ rfl rfl (by kernel_rfl) (fun U hU => ?_)
            clear qN_0 qN_1 lN qT_0 qT_1 qT_2 qT_3 lT
            replace KD := Lib.hid (KD.out.below hU KD.out.lt)
            replace KI := Lib.hid (KI.out.below hU KI.out.lt)
            replace KR := Lib.hid (KR.out.below hU KR.out.lt)
            replace KQ := Lib.hid (KQ.out.below hU KQ.out.lt)
            replace KT := Lib.hid (KT.out.below hU KT.out.lt)
            replace KN := Lib.hid (KN.out.below hU KN.out.lt)
            replace Rc := Lib.hid (Rc.out.below hU)
            replace BB := Lib.hid (below3 BB.out hU)
            clear hU
            have HLS : Hid ((is.set j (t : Int)).length = is.length) := Lib.hid (by simp)
            obtain ⟨qR_0, qR_1⟩ := KR.out.c2w
            have lR := KR.out.lt
            obtain ⟨fR_0, fR_1⟩ := KR.out.f2w
            obtain ⟨qQ_0, qQ_1, qQ_2, qQ_3⟩ := KQ.out.c4w
            have lQ := KQ.out.lt
            obtain ⟨fQ_0, fQ_1, fQ_2, fQ_3⟩ := KQ.out.f4w
            have B_R := Lib.hid (below_set2w (g := (w.heap.size + 1 + 1)) BB.out HBR.out (.slice (some ⟨gc, 0, none⟩) is.length ac) (.slice Bc st.length bc))
            have S_R := Lib.hid (bk_set2w KR.out (.slice (some ⟨gc, 0, none⟩) is.length ac) (.slice Bc st.length bc))
            have T_R := Lib.hid (ownW_set2 (g := (w.heap.size + 1 + 1)) Rc.out LR_c.out (.slice (some ⟨gc, 0, none⟩) is.length ac) (.slice Bc st.length bc))
            have F_Q_R := Lib.hid (far_set2w KQ.out (Nat.ne_of_gt OR_Q.out) (.slice (some ⟨gc, 0, none⟩) is.length ac) (.slice Bc st.length bc))
            have B_Q := Lib.hid (below_set4w (g := (w.heap.size + 1 + 1 + 1)) B_R.out HBQ.out (.int .i64 (manyWo (is.set j (t : Int)) 0 : Int)) (.int .i64 (manyWo (is.set j (t : Int)) 1 : Int)) (.int .i64 (manyWo (is.set j (t : Int)) 2 : Int)) (.int .i64 (manyWo (is.set j (t : Int)) 3 : Int)))
            have S_Q := Lib.hid (bk_set4w F_Q_R.out (.int .i64 (manyWo (is.set j (t : Int)) 0 : Int)) (.int .i64 (manyWo (is.set j (t : Int)) 1 : Int)) (.int .i64 (manyWo (is.set j (t : Int)) 2 : Int)) (.int .i64 (manyWo (is.set j (t : Int)) 3 : Int)))
            have T_Q := Lib.hid (ownW_set4 (g := (w.heap.size + 1 + 1 + 1)) T_R.out LQ_c.out (.int .i64 (manyWo (is.set j (t : Int)) 0 : Int)) (.int .i64 (manyWo (is.set j (t : Int)) 1 : Int)) (.int .i64 (manyWo (is.set j (t : Int)) 2 : Int)) (.int .i64 (manyWo (is.set j (t : Int)) 3 : Int)))
            have F_R_Q := Lib.hid (far_set4w S_R.out (Nat.ne_of_lt OR_Q.out) (.int .i64 (manyWo (is.set j (t : Int)) 0 : Int)) (.int .i64 (manyWo (is.set j (t : Int)) 1 : Int)) (.int .i64 (manyWo (is.set j (t : Int)) 2 : Int)) (.int .i64 (manyWo (is.set j (t : Int)) 3 : Int)))
            have HBF := Lib.hid (B_Q.out)
            have RR := Lib.hid (T_Q.out)
            unfold set2w set4w at HBF RR
            go_wp2
            obtain ⟨rR_0, rR_1⟩ := (F_R_Q.out).c2w
            obtain ⟨rQ_0, rQ_1, rQ_2, rQ_3⟩ := (S_Q.out).c4w
            unfold set2w set4w at rR_0 rR_1 rQ_0 rQ_1 rQ_2 rQ_3
            exact bodyPost_ret (v := .tuple #[.agg #[.slice (some ⟨gc, 0, none⟩) is.length ac, .slice Bc st.length bc], .agg #[.int .i64 (manyWo (is.set j (t : Int)) 0 : Int), .int .i64 (manyWo (is.set j (t : Int)) 1 : Int), .int .i64 (manyWo (is.set j (t : Int)) 2 : Int), .int .i64 (manyWo (is.set j (t : Int)) 3 : Int)], .int .i64 0]) (by simp [results, Try.results28, go_sem, rR_0, rR_1, rQ_0, rQ_1, rQ_2, rQ_3]) rfl (⟨some ⟨gc, 0, none⟩, ac, Bc, bc, by simp, RR.out.base_ HBBc.out, HBF.out⟩)
          · rw [chg_app hiw (by rw [hzj]; exact hmem) h2 (by rw [hzj]; exact h3), Int.toNat_natCast]
            have HT := Lib.hid fun U hU => tally_wo (some ⟨bS, o, none⟩) B n a m b is st U (hi.below hU) (hs.below hU)
            have HTR := Lib.hid (tallyR_ok hok)
            obtain ⟨kb0, kb1, kb2, kb3, hb0⟩ := lies4w w #[.slice (some ⟨bS, o, none⟩) n a, .slice B m b] #[.int .i64 (j : Int)] #[.slice none 0 0, .slice none 0 0] #[.int .i64 0, .int .i64 0, .int .i64 0, .int .i64 0] 24 3 24 46
            obtain ⟨V, hV⟩ : ∃ V, (((w.alloc (.cells #[.slice (some ⟨bS, o, none⟩) n a, .slice B m b] 24)).alloc (.cells #[.int .i64 (j : Int)] 3)).alloc (.cells #[.slice none 0 0, .slice none 0 0] 24)).alloc (.cells #[.int .i64 0, .int .i64 0, .int .i64 0, .int .i64 0] 46) = V := ⟨_, rfl⟩
            rw [hV] at hb0 kb0 kb1 kb2 kb3
            have HV := Lib.hid hV
            have BB := Lib.hid hb0
            have KD := Lib.hid kb0
            have HBD : Hid (w.heap.size ≤ w.heap.size) := Lib.hid (by omega)
            have KI := Lib.hid kb1
            have HBI : Hid (w.heap.size ≤ (w.heap.size + 1)) := Lib.hid (by omega)
            have OD_I : Hid (w.heap.size < (w.heap.size + 1)) := Lib.hid (by omega)
            have KR := Lib.hid kb2
            have HBR : Hid (w.heap.size ≤ (w.heap.size + 1 + 1)) := Lib.hid (by omega)
            have OD_R : Hid (w.heap.size < (w.heap.size + 1 + 1)) := Lib.hid (by omega)
            have OI_R : Hid ((w.heap.size + 1) < (w.heap.size + 1 + 1)) := Lib.hid (by omega)
            have KQ := Lib.hid kb3
            have HBQ : Hid (w.heap.size ≤ (w.heap.size + 1 + 1 + 1)) := Lib.hid (by omega)
            have OD_Q : Hid (w.heap.size < (w.heap.size + 1 + 1 + 1)) := Lib.hid (by omega)
            have OI_Q : Hid ((w.heap.size + 1) < (w.heap.size + 1 + 1 + 1)) := Lib.hid (by omega)
            have OR_Q : Hid ((w.heap.size + 1 + 1) < (w.heap.size + 1 + 1 + 1)) := Lib.hid (by omega)
            clear hV hb0 kb0 kb1 kb2 kb3
            go_enter Try.func28, Try.ntmps28
            go_upto_region 1 with fail
            rw [HV.out]
            clear HV
            obtain ⟨qD_0, qD_1⟩ := KD.out.c2w
            have lD := KD.out.lt
            go_wp2_with fail
            refine (HT.out _ BB.out).mono ?_
            rw [HTR.out]
            try dsimp only
            rintro e U1 ⟨rfl, bU1⟩
            clear qD_0 qD_1 lD
            replace KD := Lib.hid (KD.out.below bU1 KD.out.lt)
            replace KI := Lib.hid (KI.out.below bU1 KI.out.lt)
            replace KR := Lib.hid (KR.out.below bU1 KR.out.lt)
            replace KQ := Lib.hid (KQ.out.below bU1 KQ.out.lt)
            replace BB := Lib.hid (below3 BB.out bU1)
            clear bU1
            have kt := Bk.new U1 46 #[.int .i64 (manyWo is 0 : Int), .int .i64 (manyWo is 1 : Int), .int .i64 (manyWo is 2 : Int), .int .i64 (manyWo is 3 : Int)]
            have ba := (Below.refl U1.heap.size U1).alloc (Nat.le_refl _) (.cells #[.int .i64 (manyWo is 0 : Int), .int .i64 (manyWo is 1 : Int), .int .i64 (manyWo is 2 : Int), .int .i64 (manyWo is 3 : Int)] 46)
            have oD := KD.out.lt
            have oI := KI.out.lt
            have oR := KR.out.lt
            have oQ := KQ.out.lt
            have hgb := BB.out.size
            replace KD := Lib.hid (KD.out.below ba KD.out.lt)
            replace KI := Lib.hid (KI.out.below ba KI.out.lt)
            replace KR := Lib.hid (KR.out.below ba KR.out.lt)
            replace KQ := Lib.hid (KQ.out.below ba KQ.out.lt)
            replace BB := Lib.hid (below3 BB.out ba)
            clear ba
            obtain ⟨W2, hW⟩ : ∃ W, U1.alloc (.cells #[.int .i64 (manyWo is 0 : Int), .int .i64 (manyWo is 1 : Int), .int .i64 (manyWo is 2 : Int), .int .i64 (manyWo is 3 : Int)] 46) = W := ⟨_, rfl⟩
            obtain ⟨gT, hg⟩ : ∃ g, U1.heap.size = g := ⟨_, rfl⟩
            rw [hW] at kt BB KD KI KR KQ
            rw [hg] at kt hgb oD oI oR oQ
            have HW := Lib.hid hW
            have HG := Lib.hid hg
            have KT := Lib.hid kt
            have HBT := Lib.hid hgb
            have OD_T := Lib.hid oD
            have OI_T := Lib.hid oI
            have OR_T := Lib.hid oR
            have OQ_T := Lib.hid oQ
            clear hW hg kt hgb oD oI oR oQ
            go_upto_region 2 with fail
            rw [HW.out]
            try rw [HG.out]
            clear HW HG
            obtain ⟨qD_0, qD_1⟩ := KD.out.c2w
            have lD := KD.out.lt
            have qI_0 := KI.out.one
            have lI := KI.out.lt
            go_wp2_with fail
            refine (isone_wo (some ⟨bS, o, none⟩) B n a m b (j : Int) _).mono ?_
            rw [decide_eq_true hin]
            try dsimp only
            rintro e U3 ⟨rfl, bU3⟩
            clear qD_0 qD_1 lD qI_0 lI
            replace KD := Lib.hid (KD.out.below bU3 KD.out.lt)
            replace KI := Lib.hid (KI.out.below bU3 KI.out.lt)
            replace KR := Lib.hid (KR.out.below bU3 KR.out.lt)
            replace KQ := Lib.hid (KQ.out.below bU3 KQ.out.lt)
            replace KT := Lib.hid (KT.out.below bU3 KT.out.lt)
            replace BB := Lib.hid (below3 BB.out bU3)
            clear bU3
            obtain ⟨qD_0, qD_1⟩ := KD.out.c2w
            have lD := KD.out.lt
            have qI_0 := KI.out.one
            have lI := KI.out.lt
            have c1 := (BB.out.cell (p := ⟨bS, o + j, none⟩) hb).trans c0
            have lb := Nat.lt_of_lt_of_le hb BB.out.size
            go_wp2_with fail
            refine (contains_wo (f : Int) F k c fs _ (hf.below BB.out)).mono ?_
            rw [decide_eq_true hmem]
            try dsimp only
            rintro e U4 ⟨rfl, bU4⟩
            clear qD_0 qD_1 lD qI_0 lI c1 lb
            replace KD := Lib.hid (KD.out.below bU4 KD.out.lt)
            replace KI := Lib.hid (KI.out.below bU4 KI.out.lt)
            replace KR := Lib.hid (KR.out.below bU4 KR.out.lt)
            replace KQ := Lib.hid (KQ.out.below bU4 KQ.out.lt)
            replace KT := Lib.hid (KT.out.below bU4 KT.out.lt)
            replace BB := Lib.hid (below3 BB.out bU4)
            clear bU4
            have HMV := Lib.hid fun U => moved_wo is j f t hjl hf4 ht4 hfz hn64 U
            clear hok HT HTR c0 hb hmem
            obtain ⟨qD_0, qD_1⟩ := KD.out.c2w
            have lD := KD.out.lt
            go_wp2_with fail
            refine (clone_wo (some ⟨bS, o, none⟩) B n a m b is st _ (hi.below BB.out) (hs.below BB.out)).mono ?_
            try dsimp only
            rintro e U5 ⟨Ac, ac, Bc, bc, he, ow, bU5⟩
            try dsimp only at he ow
            subst he
            clear qD_0 qD_1 lD
            obtain ⟨gc, rfl, hga, hgl, -, -⟩ := ow.i.form (by omega)
            have OD_c : Hid (w.heap.size < gc) := Lib.hid (by have := KD.out.lt; omega)
            have OI_c : Hid ((w.heap.size + 1) < gc) := Lib.hid (by have := KI.out.lt; omega)
            have OR_c : Hid ((w.heap.size + 1 + 1) < gc) := Lib.hid (by have := KR.out.lt; omega)
            have OQ_c : Hid ((w.heap.size + 1 + 1 + 1) < gc) := Lib.hid (by have := KQ.out.lt; omega)
            have OT_c : Hid (gT < gc) := Lib.hid (by have := KT.out.lt; omega)
            have HBc : Hid (w.heap.size ≤ gc) := Lib.hid (by have := BB.out.size; omega)
            clear hga hgl
            have LD_c : Hid (w.heap.size < U4.heap.size) := Lib.hid KD.out.lt
            have LI_c : Hid ((w.heap.size + 1) < U4.heap.size) := Lib.hid KI.out.lt
            have LR_c : Hid ((w.heap.size + 1 + 1) < U4.heap.size) := Lib.hid KR.out.lt
            have LQ_c : Hid ((w.heap.size + 1 + 1 + 1) < U4.heap.size) := Lib.hid KQ.out.lt
            have LT_c : Hid (gT < U4.heap.size) := Lib.hid KT.out.lt
            have HBBc : Hid (w.heap.size ≤ U4.heap.size) := Lib.hid BB.out.size
            have Rc := Lib.hid ow
            clear ow
            replace KD := Lib.hid (KD.out.below bU5 KD.out.lt)
            replace KI := Lib.hid (KI.out.below bU5 KI.out.lt)
            replace KR := Lib.hid (KR.out.below bU5 KR.out.lt)
            replace KQ := Lib.hid (KQ.out.below bU5 KQ.out.lt)
            replace KT := Lib.hid (KT.out.below bU5 KT.out.lt)
            replace BB := Lib.hid (below3 BB.out bU5)
            clear bU5
            have kt := Bk.new U5 24 #[.slice (some ⟨gc, 0, none⟩) is.length ac, .slice Bc st.length bc]
            have ba := (Below.refl U5.heap.size U5).alloc (Nat.le_refl _) (.cells #[.slice (some ⟨gc, 0, none⟩) is.length ac, .slice Bc st.length bc] 24)
            have oD := KD.out.lt
            have oI := KI.out.lt
            have oR := KR.out.lt
            have oQ := KQ.out.lt
            have oT := KT.out.lt
            have oc := Rc.out.i.lt
            have hgb := BB.out.size
            replace KD := Lib.hid (KD.out.below ba KD.out.lt)
            replace KI := Lib.hid (KI.out.below ba KI.out.lt)
            replace KR := Lib.hid (KR.out.below ba KR.out.lt)
            replace KQ := Lib.hid (KQ.out.below ba KQ.out.lt)
            replace KT := Lib.hid (KT.out.below ba KT.out.lt)
            replace Rc := Lib.hid (Rc.out.below ba)
            replace BB := Lib.hid (below3 BB.out ba)
            clear ba
            obtain ⟨W6, hW⟩ : ∃ W, U5.alloc (.cells #[.slice (some ⟨gc, 0, none⟩) is.length ac, .slice Bc st.length bc] 24) = W := ⟨_, rfl⟩
            obtain ⟨gN, hg⟩ : ∃ g, U5.heap.size = g := ⟨_, rfl⟩
            rw [hW] at kt BB KD KI KR KQ KT Rc
            rw [hg] at kt hgb oD oI oR oQ oT oc
            have HW := Lib.hid hW
            have HG := Lib.hid hg
            have KN := Lib.hid kt
            have HBN := Lib.hid hgb
            have OD_N := Lib.hid oD
            have OI_N := Lib.hid oI
            have OR_N := Lib.hid oR
            have OQ_N := Lib.hid oQ
            have OT_N := Lib.hid oT
            have Oc_N := Lib.hid oc
            clear hW hg kt hgb oD oI oR oQ oT oc
            go_upto_region 8 with fail
            rw [HW.out]
            try rw [HG.out]
            clear HW HG
            obtain ⟨c0, f0⟩ := Rc.out.i.at_ (j := j) hjl
            have lc := Rc.out.i.lt
            obtain ⟨qN_0, qN_1⟩ := KN.out.c2w
            have lN := KN.out.lt
            have qI_0 := KI.out.one
            have lI := KI.out.lt
            have x0 := Rc.out.setI j (x := (t : Int)) (by unfold Fit; omega)
            have xb := BB.out.setCell (p := ⟨gc, j, none⟩) HBc.out (.int .i64 (t : Int))
            have xD := KD.out.far (p := ⟨gc, j, none⟩) (Nat.ne_of_lt OD_c.out) (.int .i64 (t : Int))
            have xI := KI.out.far (p := ⟨gc, j, none⟩) (Nat.ne_of_lt OI_c.out) (.int .i64 (t : Int))
            have xR := KR.out.far (p := ⟨gc, j, none⟩) (Nat.ne_of_lt OR_c.out) (.int .i64 (t : Int))
            have xQ := KQ.out.far (p := ⟨gc, j, none⟩) (Nat.ne_of_lt OQ_c.out) (.int .i64 (t : Int))
            have xT := KT.out.far (p := ⟨gc, j, none⟩) (Nat.ne_of_lt OT_c.out) (.int .i64 (t : Int))
            have xN := KN.out.far (p := ⟨gc, j, none⟩) (Nat.ne_of_gt Oc_N.out) (.int .i64 (t : Int))
            obtain ⟨X6, hX⟩ : ∃ X, W6.setCell ⟨gc, j, none⟩ (.int .i64 (t : Int)) = X := ⟨_, rfl⟩
            rw [hX] at x0 xb xD xI xR xQ xT xN
            have HX := Lib.hid hX
            replace Rc := Lib.hid x0
            replace BB := Lib.hid xb
            replace KD := Lib.hid xD
            replace KI := Lib.hid xI
            replace KR := Lib.hid xR
            replace KQ := Lib.hid xQ
            replace KT := Lib.hid xT
            replace KN := Lib.hid xN
            clear hX x0 xb xD xI xR xQ xT xN
            go_upto_region 9 with fail
            rw [HX.out]
            clear HX
            clear qN_0 qN_1 lN qI_0 lI c0 f0 lc
            go_wp2_with fail
            refine (rests_wo (t : Int) _).mono ?_
            rw [decide_eq_true h2]
            rintro e U8 ⟨rfl, hw⟩
            have hw2 := hw.symm
            subst hw2
            clear hw
            go_wp2_with fail
            refine (rests_wo (f : Int) _).mono ?_
            rw [decide_eq_false h3]
            rintro e U9 ⟨rfl, hw⟩
            have hw2 := hw.symm
            subst hw2
            clear hw
            clear h2 h3
            obtain ⟨qN_0, qN_1⟩ := KN.out.c2w
            have lN := KN.out.lt
            have qI_0 := KI.out.one
            have lI := KI.out.lt
            obtain ⟨m0, hm0, hm1, hm2, hm3⟩ := Rc.out.room (by have := Rc.out.i.blkW_lt gc rfl; omega)
            have FJ : Hid (Fit (j : Int)) := Lib.hid (by unfold Fit; omega)
            have HM := Lib.hid hm2
            have HM0 := Lib.hid hm0
            have HM1 := Lib.hid hm1
            have HM3 := Lib.hid hm3
            have HSL : Hid (st.length ≤ 64) := Lib.hid (by have := hiw.1.2.2.2.1; have := many_all hiw.1.2.1; omega)
            clear hm0 hm1 hm2 hm3
            have ba := Lib.hid ((Below.refl X6.heap.size X6).alloc (Nat.le_refl _) (.cells #[.int .i64 (j : Int)] 3))
            go_upto_region 13 with (at_builtin; refine wpList_append_ints _ rfl _ _ 22 rfl 3 Try.underlying22 Try.intInfo17 _ Bc bc st st.length rfl rfl (HM.out.below ba.out) (some ⟨X6.heap.size, 0, none⟩) 1 1 [(j : Int)] rfl (ints1 X6 3 FJ.out) (by have := HSL.out; omega) (Nat.le_trans HM0.out ba.out.size) ?_; intro A1 c1 w1 ho hg; rw [blk_anyW] at hg; have xD := (KD.out.below ba.out KD.out.lt).grown hg (fun q => Rc.out.s.neBk KD.out (by decide) q.symm); have xI := (KI.out.below ba.out KI.out.lt).grown hg (fun q => by have := ((Rc.out.s.blkW_lt _ q.symm).1); have := LI_c.out; omega); have xR := (KR.out.below ba.out KR.out.lt).grown hg (fun q => Rc.out.s.neBk KR.out (by decide) q.symm); have xQ := (KQ.out.below ba.out KQ.out.lt).grown hg (fun q => Rc.out.s.neBk KQ.out (by decide) q.symm); have xT := (KT.out.below ba.out KT.out.lt).grown hg (fun q => Rc.out.s.neBk KT.out (by decide) q.symm); have xN := (KN.out.below ba.out KN.out.lt).grown hg (fun q => Rc.out.s.neBk KN.out (by decide) q.symm); have b9 := (BB.out.alloc BB.out.size (.cells #[.int .i64 (j : Int)] 3)).grown hg (by have := BB.out.size; simp; omega) (fun q hq => by have := (Rc.out.s.blkW_lt _ hq).1; have := HBBc.out; omega); have r9 := (Rc.out.below ba.out).appS hg ho HM1.out HM3.out; replace BB := Lib.hid b9; replace Rc := Lib.hid r9; replace KD := Lib.hid xD; replace KI := Lib.hid xI; replace KR := Lib.hid xR; replace KQ := Lib.hid xQ; replace KT := Lib.hid xT; replace KN := Lib.hid xN; clear qN_0 qN_1 lN qI_0 lI; clear r9 b9 ho hg ba HM HM0 HM1 HM3 xD xI xR xQ xT xN; obtain ⟨qN_0, qN_1⟩ := KN.out.c2w; have lN := KN.out.lt; obtain ⟨fN_0, fN_1⟩ := KN.out.f2w; have x0 : Bk _ gN 24 #[.slice (some ⟨gc, 0, none⟩) is.length ac, .slice A1 (st.length + 1) c1] := KN.out.set_ 1 (.slice A1 (st.length + 1) c1); have xb := BB.out.setCell (p := ⟨gN, 1, none⟩) HBN.out (.slice A1 (st.length + 1) c1); have xD := KD.out.far (p := ⟨gN, 1, none⟩) (Nat.ne_of_lt OD_N.out) (.slice A1 (st.length + 1) c1); have xI := KI.out.far (p := ⟨gN, 1, none⟩) (Nat.ne_of_lt OI_N.out) (.slice A1 (st.length + 1) c1); have xR := KR.out.far (p := ⟨gN, 1, none⟩) (Nat.ne_of_lt OR_N.out) (.slice A1 (st.length + 1) c1); have xQ := KQ.out.far (p := ⟨gN, 1, none⟩) (Nat.ne_of_lt OQ_N.out) (.slice A1 (st.length + 1) c1); have xT := KT.out.far (p := ⟨gN, 1, none⟩) (Nat.ne_of_lt OT_N.out) (.slice A1 (st.length + 1) c1); have yc := Rc.out.apart (j := 1) KN.out (by decide) (.slice A1 (st.length + 1) c1); obtain ⟨X39, hX⟩ : ∃ X, World.setCell w1 ⟨gN, 1, none⟩ (.slice A1 (st.length + 1) c1) = X := ⟨_, rfl⟩; rw [hX] at x0 xb xD xI xR xQ xT yc; have HX := Lib.hid hX; replace KN := Lib.hid x0; replace BB := Lib.hid xb; replace KD := Lib.hid xD; replace KI := Lib.hid xI; replace KR := Lib.hid xR; replace KQ := Lib.hid xQ; replace KT := Lib.hid xT; replace Rc := Lib.hid yc; clear hX x0 xb xD xI xR xQ xT yc)
            rw [HX.out]
            clear HX
            clear qN_0 qN_1 lN fN_0 fN_1
            obtain ⟨qN_0, qN_1⟩ := KN.out.c2w
            have lN := KN.out.lt
            obtain ⟨qT_0, qT_1, qT_2, qT_3⟩ := KT.out.c4w
            have lT := KT.out.lt
            refine calmT_region 5 (S := fun U => Below X39.heap.size X39 U) (by kernel_rfl) (by kernel_rfl) (Below.refl _ _).drew ?_
            refine calmT_to (i := 0) (t := 67) (v := .agg #[.slice (some ⟨gc, 0, none⟩) is.length ac, .slice A1 (st.length + 1) c1]) rfl rfl (by decide) (by kernel_rfl) (by kernel_rfl) (fun _ _ _ h => h) (calm_of (by kernel_rfl) (fun U hU => by have e0 := (hU.cell (p := ⟨gN, 0, none⟩) lN).trans qN_0; have e1 := (hU.cell (p := ⟨gN, 1, none⟩) lN).trans qN_1; have el := Nat.lt_of_lt_of_le lN hU.size; go_simp)) ?_
            simp only [List.setIfInBounds_toArray, List.set_cons_zero, List.set_cons_succ]
            refine calmT_to (i := 1) (t := 68) (v := .agg #[.int .i64 (manyWo is 0 : Int), .int .i64 (manyWo is 1 : Int), .int .i64 (manyWo is 2 : Int), .int .i64 (manyWo is 3 : Int)]) rfl rfl (by decide) (by kernel_rfl) (by kernel_rfl) (fun _ _ _ h => h) (calm_of (by kernel_rfl) (fun U hU => by have e0 := (hU.cell (p := ⟨gT, 0, none⟩) lT).trans qT_0; have e1 := (hU.cell (p := ⟨gT, 1, none⟩) lT).trans qT_1; have e2 := (hU.cell (p := ⟨gT, 2, none⟩) lT).trans qT_2; have e3 := (hU.cell (p := ⟨gT, 3, none⟩) lT).trans qT_3; have el := Nat.lt_of_lt_of_le lT hU.size; go_simp)) ?_
            simp only [List.setIfInBounds_toArray, List.set_cons_zero, List.set_cons_succ]
            refine calmT_to (i := 2) (t := 69) (v := .int .i64 (f : Int)) rfl rfl (by decide) (by kernel_rfl) (by kernel_rfl) (fun _ _ _ h => h) (calm_move (by kernel_rfl) (.tmp 13) (.inl rfl) rfl) ?_
            simp only [List.setIfInBounds_toArray, List.set_cons_zero, List.set_cons_succ]
            refine calmT_to (i := 3) (t := 70) (v := .int .i64 (t : Int)) rfl rfl (by decide) (by kernel_rfl) (by kernel_rfl) (fun _ _ _ h => h) (calm_move (by kernel_rfl) (.tmp 2) (.inl rfl) rfl) ?_
            simp only [List.setIfInBounds_toArray, List.set_cons_zero, List.set_cons_succ]
            refine calmT_to (i := 4) (t := 71) (v := .agg #[.int .i64 (manyWo (is.set j (t : Int)) 0 : Int), .int .i64 (manyWo (is.set j (t : Int)) 1 : Int), .int .i64 (manyWo (is.set j (t : Int)) 2 : Int), .int .i64 (manyWo (is.set j (t : Int)) 3 : Int)]) rfl rfl (by decide) (by kernel_rfl) (by kernel_rfl) (fun _ _ _ h => h) (calm_call3w (by kernel_rfl) 46 (.tmp 68) (.tmp 69) (.tmp 70) #[46, 3, 3] rfl (enters_of Try.func46 (by kernel_rfl) rfl) (.agg #[.int .i64 (manyWo is 0 : Int), .int .i64 (manyWo is 1 : Int), .int .i64 (manyWo is 2 : Int), .int .i64 (manyWo is 3 : Int)]) (.int .i64 (f : Int)) (.int .i64 (t : Int)) rfl rfl rfl (fun U hU => (HMV.out U).mono fun _ _ q => ⟨q.1, below3 hU q.2⟩)) ?_
            simp only [List.setIfInBounds_toArray, List.set_cons_zero, List.set_cons_succ]
            refine calmT_done _ rfl rfl (by kernel_rfl) (fun U hU => ?_)
            clear qN_0 qN_1 lN qT_0 qT_1 qT_2 qT_3 lT
            replace KD := Lib.hid (KD.out.below hU KD.out.lt)
            replace KI := Lib.hid (KI.out.below hU KI.out.lt)
            replace KR := Lib.hid (KR.out.below hU KR.out.lt)
            replace KQ := Lib.hid (KQ.out.below hU KQ.out.lt)
            replace KT := Lib.hid (KT.out.below hU KT.out.lt)
            replace KN := Lib.hid (KN.out.below hU KN.out.lt)
            replace Rc := Lib.hid (Rc.out.below hU)
            replace BB := Lib.hid (below3 BB.out hU)
            clear hU
            have HLS : Hid ((is.set j (t : Int)).length = is.length) := Lib.hid (by simp)
            obtain ⟨qR_0, qR_1⟩ := KR.out.c2w
            have lR := KR.out.lt
            obtain ⟨fR_0, fR_1⟩ := KR.out.f2w
            obtain ⟨qQ_0, qQ_1, qQ_2, qQ_3⟩ := KQ.out.c4w
            have lQ := KQ.out.lt
            obtain ⟨fQ_0, fQ_1, fQ_2, fQ_3⟩ := KQ.out.f4w
            have B_R := Lib.hid (below_set2w (g := (w.heap.size + 1 + 1)) BB.out HBR.out (.slice (some ⟨gc, 0, none⟩) is.length ac) (.slice A1 (st.length + 1) c1))
            have S_R := Lib.hid (bk_set2w KR.out (.slice (some ⟨gc, 0, none⟩) is.length ac) (.slice A1 (st.length + 1) c1))
            have T_R := Lib.hid (ownW_set2 (g := (w.heap.size + 1 + 1)) Rc.out LR_c.out (.slice (some ⟨gc, 0, none⟩) is.length ac) (.slice A1 (st.length + 1) c1))
            have F_Q_R := Lib.hid (far_set2w KQ.out (Nat.ne_of_gt OR_Q.out) (.slice (some ⟨gc, 0, none⟩) is.length ac) (.slice A1 (st.length + 1) c1))
            have B_Q := Lib.hid (below_set4w (g := (w.heap.size + 1 + 1 + 1)) B_R.out HBQ.out (.int .i64 (manyWo (is.set j (t : Int)) 0 : Int)) (.int .i64 (manyWo (is.set j (t : Int)) 1 : Int)) (.int .i64 (manyWo (is.set j (t : Int)) 2 : Int)) (.int .i64 (manyWo (is.set j (t : Int)) 3 : Int)))
            have S_Q := Lib.hid (bk_set4w F_Q_R.out (.int .i64 (manyWo (is.set j (t : Int)) 0 : Int)) (.int .i64 (manyWo (is.set j (t : Int)) 1 : Int)) (.int .i64 (manyWo (is.set j (t : Int)) 2 : Int)) (.int .i64 (manyWo (is.set j (t : Int)) 3 : Int)))
            have T_Q := Lib.hid (ownW_set4 (g := (w.heap.size + 1 + 1 + 1)) T_R.out LQ_c.out (.int .i64 (manyWo (is.set j (t : Int)) 0 : Int)) (.int .i64 (manyWo (is.set j (t : Int)) 1 : Int)) (.int .i64 (manyWo (is.set j (t : Int)) 2 : Int)) (.int .i64 (manyWo (is.set j (t : Int)) 3 : Int)))
            have F_R_Q := Lib.hid (far_set4w S_R.out (Nat.ne_of_lt OR_Q.out) (.int .i64 (manyWo (is.set j (t : Int)) 0 : Int)) (.int .i64 (manyWo (is.set j (t : Int)) 1 : Int)) (.int .i64 (manyWo (is.set j (t : Int)) 2 : Int)) (.int .i64 (manyWo (is.set j (t : Int)) 3 : Int)))
            have HBF := Lib.hid (B_Q.out)
            have RR := Lib.hid (T_Q.out)
            unfold set2w set4w at HBF RR
            go_wp2
            obtain ⟨rR_0, rR_1⟩ := (F_R_Q.out).c2w
            obtain ⟨rQ_0, rQ_1, rQ_2, rQ_3⟩ := (S_Q.out).c4w
            unfold set2w set4w at rR_0 rR_1 rQ_0 rQ_1 rQ_2 rQ_3
            exact bodyPost_ret (v := .tuple #[.agg #[.slice (some ⟨gc, 0, none⟩) is.length ac, .slice A1 (st.length + 1) c1], .agg #[.int .i64 (manyWo (is.set j (t : Int)) 0 : Int), .int .i64 (manyWo (is.set j (t : Int)) 1 : Int), .int .i64 (manyWo (is.set j (t : Int)) 2 : Int), .int .i64 (manyWo (is.set j (t : Int)) 3 : Int)], .int .i64 0]) (by simp [results, Try.results28, go_sem, rR_0, rR_1, rQ_0, rQ_1, rQ_2, rQ_3]) rfl (⟨some ⟨gc, 0, none⟩, ac, A1, c1, by simp, RR.out.base_ HBBc.out, HBF.out⟩)
        · by_cases hm : (j : Int) ∈ st
          · rw [chg_out hiw (by rw [hzj]; exact hmem) h2, Int.toNat_natCast]
            have HT := Lib.hid fun U hU => tally_wo (some ⟨bS, o, none⟩) B n a m b is st U (hi.below hU) (hs.below hU)
            have HTR := Lib.hid (tallyR_ok hok)
            obtain ⟨kb0, kb1, kb2, kb3, hb0⟩ := lies4w w #[.slice (some ⟨bS, o, none⟩) n a, .slice B m b] #[.int .i64 (j : Int)] #[.slice none 0 0, .slice none 0 0] #[.int .i64 0, .int .i64 0, .int .i64 0, .int .i64 0] 24 3 24 46
            obtain ⟨V, hV⟩ : ∃ V, (((w.alloc (.cells #[.slice (some ⟨bS, o, none⟩) n a, .slice B m b] 24)).alloc (.cells #[.int .i64 (j : Int)] 3)).alloc (.cells #[.slice none 0 0, .slice none 0 0] 24)).alloc (.cells #[.int .i64 0, .int .i64 0, .int .i64 0, .int .i64 0] 46) = V := ⟨_, rfl⟩
            rw [hV] at hb0 kb0 kb1 kb2 kb3
            have HV := Lib.hid hV
            have BB := Lib.hid hb0
            have KD := Lib.hid kb0
            have HBD : Hid (w.heap.size ≤ w.heap.size) := Lib.hid (by omega)
            have KI := Lib.hid kb1
            have HBI : Hid (w.heap.size ≤ (w.heap.size + 1)) := Lib.hid (by omega)
            have OD_I : Hid (w.heap.size < (w.heap.size + 1)) := Lib.hid (by omega)
            have KR := Lib.hid kb2
            have HBR : Hid (w.heap.size ≤ (w.heap.size + 1 + 1)) := Lib.hid (by omega)
            have OD_R : Hid (w.heap.size < (w.heap.size + 1 + 1)) := Lib.hid (by omega)
            have OI_R : Hid ((w.heap.size + 1) < (w.heap.size + 1 + 1)) := Lib.hid (by omega)
            have KQ := Lib.hid kb3
            have HBQ : Hid (w.heap.size ≤ (w.heap.size + 1 + 1 + 1)) := Lib.hid (by omega)
            have OD_Q : Hid (w.heap.size < (w.heap.size + 1 + 1 + 1)) := Lib.hid (by omega)
            have OI_Q : Hid ((w.heap.size + 1) < (w.heap.size + 1 + 1 + 1)) := Lib.hid (by omega)
            have OR_Q : Hid ((w.heap.size + 1 + 1) < (w.heap.size + 1 + 1 + 1)) := Lib.hid (by omega)
            clear hV hb0 kb0 kb1 kb2 kb3
            go_enter Try.func28, Try.ntmps28
            go_upto_region 1 with fail
            rw [HV.out]
            clear HV
            obtain ⟨qD_0, qD_1⟩ := KD.out.c2w
            have lD := KD.out.lt
            go_wp2_with fail
            refine (HT.out _ BB.out).mono ?_
            rw [HTR.out]
            try dsimp only
            rintro e U1 ⟨rfl, bU1⟩
            clear qD_0 qD_1 lD
            replace KD := Lib.hid (KD.out.below bU1 KD.out.lt)
            replace KI := Lib.hid (KI.out.below bU1 KI.out.lt)
            replace KR := Lib.hid (KR.out.below bU1 KR.out.lt)
            replace KQ := Lib.hid (KQ.out.below bU1 KQ.out.lt)
            replace BB := Lib.hid (below3 BB.out bU1)
            clear bU1
            have kt := Bk.new U1 46 #[.int .i64 (manyWo is 0 : Int), .int .i64 (manyWo is 1 : Int), .int .i64 (manyWo is 2 : Int), .int .i64 (manyWo is 3 : Int)]
            have ba := (Below.refl U1.heap.size U1).alloc (Nat.le_refl _) (.cells #[.int .i64 (manyWo is 0 : Int), .int .i64 (manyWo is 1 : Int), .int .i64 (manyWo is 2 : Int), .int .i64 (manyWo is 3 : Int)] 46)
            have oD := KD.out.lt
            have oI := KI.out.lt
            have oR := KR.out.lt
            have oQ := KQ.out.lt
            have hgb := BB.out.size
            replace KD := Lib.hid (KD.out.below ba KD.out.lt)
            replace KI := Lib.hid (KI.out.below ba KI.out.lt)
            replace KR := Lib.hid (KR.out.below ba KR.out.lt)
            replace KQ := Lib.hid (KQ.out.below ba KQ.out.lt)
            replace BB := Lib.hid (below3 BB.out ba)
            clear ba
            obtain ⟨W2, hW⟩ : ∃ W, U1.alloc (.cells #[.int .i64 (manyWo is 0 : Int), .int .i64 (manyWo is 1 : Int), .int .i64 (manyWo is 2 : Int), .int .i64 (manyWo is 3 : Int)] 46) = W := ⟨_, rfl⟩
            obtain ⟨gT, hg⟩ : ∃ g, U1.heap.size = g := ⟨_, rfl⟩
            rw [hW] at kt BB KD KI KR KQ
            rw [hg] at kt hgb oD oI oR oQ
            have HW := Lib.hid hW
            have HG := Lib.hid hg
            have KT := Lib.hid kt
            have HBT := Lib.hid hgb
            have OD_T := Lib.hid oD
            have OI_T := Lib.hid oI
            have OR_T := Lib.hid oR
            have OQ_T := Lib.hid oQ
            clear hW hg kt hgb oD oI oR oQ
            go_upto_region 2 with fail
            rw [HW.out]
            try rw [HG.out]
            clear HW HG
            obtain ⟨qD_0, qD_1⟩ := KD.out.c2w
            have lD := KD.out.lt
            have qI_0 := KI.out.one
            have lI := KI.out.lt
            go_wp2_with fail
            refine (isone_wo (some ⟨bS, o, none⟩) B n a m b (j : Int) _).mono ?_
            rw [decide_eq_true hin]
            try dsimp only
            rintro e U3 ⟨rfl, bU3⟩
            clear qD_0 qD_1 lD qI_0 lI
            replace KD := Lib.hid (KD.out.below bU3 KD.out.lt)
            replace KI := Lib.hid (KI.out.below bU3 KI.out.lt)
            replace KR := Lib.hid (KR.out.below bU3 KR.out.lt)
            replace KQ := Lib.hid (KQ.out.below bU3 KQ.out.lt)
            replace KT := Lib.hid (KT.out.below bU3 KT.out.lt)
            replace BB := Lib.hid (below3 BB.out bU3)
            clear bU3
            obtain ⟨qD_0, qD_1⟩ := KD.out.c2w
            have lD := KD.out.lt
            have qI_0 := KI.out.one
            have lI := KI.out.lt
            have c1 := (BB.out.cell (p := ⟨bS, o + j, none⟩) hb).trans c0
            have lb := Nat.lt_of_lt_of_le hb BB.out.size
            go_wp2_with fail
            refine (contains_wo (f : Int) F k c fs _ (hf.below BB.out)).mono ?_
            rw [decide_eq_true hmem]
            try dsimp only
            rintro e U4 ⟨rfl, bU4⟩
            clear qD_0 qD_1 lD qI_0 lI c1 lb
            replace KD := Lib.hid (KD.out.below bU4 KD.out.lt)
            replace KI := Lib.hid (KI.out.below bU4 KI.out.lt)
            replace KR := Lib.hid (KR.out.below bU4 KR.out.lt)
            replace KQ := Lib.hid (KQ.out.below bU4 KQ.out.lt)
            replace KT := Lib.hid (KT.out.below bU4 KT.out.lt)
            replace BB := Lib.hid (below3 BB.out bU4)
            clear bU4
            have HMV := Lib.hid fun U => moved_wo is j f t hjl hf4 ht4 hfz hn64 U
            clear hok HT HTR c0 hb hmem
            obtain ⟨qD_0, qD_1⟩ := KD.out.c2w
            have lD := KD.out.lt
            go_wp2_with fail
            refine (clone_wo (some ⟨bS, o, none⟩) B n a m b is st _ (hi.below BB.out) (hs.below BB.out)).mono ?_
            try dsimp only
            rintro e U5 ⟨Ac, ac, Bc, bc, he, ow, bU5⟩
            try dsimp only at he ow
            subst he
            clear qD_0 qD_1 lD
            obtain ⟨gc, rfl, hga, hgl, -, -⟩ := ow.i.form (by omega)
            have OD_c : Hid (w.heap.size < gc) := Lib.hid (by have := KD.out.lt; omega)
            have OI_c : Hid ((w.heap.size + 1) < gc) := Lib.hid (by have := KI.out.lt; omega)
            have OR_c : Hid ((w.heap.size + 1 + 1) < gc) := Lib.hid (by have := KR.out.lt; omega)
            have OQ_c : Hid ((w.heap.size + 1 + 1 + 1) < gc) := Lib.hid (by have := KQ.out.lt; omega)
            have OT_c : Hid (gT < gc) := Lib.hid (by have := KT.out.lt; omega)
            have HBc : Hid (w.heap.size ≤ gc) := Lib.hid (by have := BB.out.size; omega)
            clear hga hgl
            have LD_c : Hid (w.heap.size < U4.heap.size) := Lib.hid KD.out.lt
            have LI_c : Hid ((w.heap.size + 1) < U4.heap.size) := Lib.hid KI.out.lt
            have LR_c : Hid ((w.heap.size + 1 + 1) < U4.heap.size) := Lib.hid KR.out.lt
            have LQ_c : Hid ((w.heap.size + 1 + 1 + 1) < U4.heap.size) := Lib.hid KQ.out.lt
            have LT_c : Hid (gT < U4.heap.size) := Lib.hid KT.out.lt
            have HBBc : Hid (w.heap.size ≤ U4.heap.size) := Lib.hid BB.out.size
            have Rc := Lib.hid ow
            clear ow
            replace KD := Lib.hid (KD.out.below bU5 KD.out.lt)
            replace KI := Lib.hid (KI.out.below bU5 KI.out.lt)
            replace KR := Lib.hid (KR.out.below bU5 KR.out.lt)
            replace KQ := Lib.hid (KQ.out.below bU5 KQ.out.lt)
            replace KT := Lib.hid (KT.out.below bU5 KT.out.lt)
            replace BB := Lib.hid (below3 BB.out bU5)
            clear bU5
            have kt := Bk.new U5 24 #[.slice (some ⟨gc, 0, none⟩) is.length ac, .slice Bc st.length bc]
            have ba := (Below.refl U5.heap.size U5).alloc (Nat.le_refl _) (.cells #[.slice (some ⟨gc, 0, none⟩) is.length ac, .slice Bc st.length bc] 24)
            have oD := KD.out.lt
            have oI := KI.out.lt
            have oR := KR.out.lt
            have oQ := KQ.out.lt
            have oT := KT.out.lt
            have oc := Rc.out.i.lt
            have hgb := BB.out.size
            replace KD := Lib.hid (KD.out.below ba KD.out.lt)
            replace KI := Lib.hid (KI.out.below ba KI.out.lt)
            replace KR := Lib.hid (KR.out.below ba KR.out.lt)
            replace KQ := Lib.hid (KQ.out.below ba KQ.out.lt)
            replace KT := Lib.hid (KT.out.below ba KT.out.lt)
            replace Rc := Lib.hid (Rc.out.below ba)
            replace BB := Lib.hid (below3 BB.out ba)
            clear ba
            obtain ⟨W6, hW⟩ : ∃ W, U5.alloc (.cells #[.slice (some ⟨gc, 0, none⟩) is.length ac, .slice Bc st.length bc] 24) = W := ⟨_, rfl⟩
            obtain ⟨gN, hg⟩ : ∃ g, U5.heap.size = g := ⟨_, rfl⟩
            rw [hW] at kt BB KD KI KR KQ KT Rc
            rw [hg] at kt hgb oD oI oR oQ oT oc
            have HW := Lib.hid hW
            have HG := Lib.hid hg
            have KN := Lib.hid kt
            have HBN := Lib.hid hgb
            have OD_N := Lib.hid oD
            have OI_N := Lib.hid oI
            have OR_N := Lib.hid oR
            have OQ_N := Lib.hid oQ
            have OT_N := Lib.hid oT
            have Oc_N := Lib.hid oc
            clear hW hg kt hgb oD oI oR oQ oT oc
            go_upto_region 8 with fail
            rw [HW.out]
            try rw [HG.out]
            clear HW HG
            obtain ⟨c0, f0⟩ := Rc.out.i.at_ (j := j) hjl
            have lc := Rc.out.i.lt
            obtain ⟨qN_0, qN_1⟩ := KN.out.c2w
            have lN := KN.out.lt
            have qI_0 := KI.out.one
            have lI := KI.out.lt
            have x0 := Rc.out.setI j (x := (t : Int)) (by unfold Fit; omega)
            have xb := BB.out.setCell (p := ⟨gc, j, none⟩) HBc.out (.int .i64 (t : Int))
            have xD := KD.out.far (p := ⟨gc, j, none⟩) (Nat.ne_of_lt OD_c.out) (.int .i64 (t : Int))
            have xI := KI.out.far (p := ⟨gc, j, none⟩) (Nat.ne_of_lt OI_c.out) (.int .i64 (t : Int))
            have xR := KR.out.far (p := ⟨gc, j, none⟩) (Nat.ne_of_lt OR_c.out) (.int .i64 (t : Int))
            have xQ := KQ.out.far (p := ⟨gc, j, none⟩) (Nat.ne_of_lt OQ_c.out) (.int .i64 (t : Int))
            have xT := KT.out.far (p := ⟨gc, j, none⟩) (Nat.ne_of_lt OT_c.out) (.int .i64 (t : Int))
            have xN := KN.out.far (p := ⟨gc, j, none⟩) (Nat.ne_of_gt Oc_N.out) (.int .i64 (t : Int))
            obtain ⟨X6, hX⟩ : ∃ X, W6.setCell ⟨gc, j, none⟩ (.int .i64 (t : Int)) = X := ⟨_, rfl⟩
            rw [hX] at x0 xb xD xI xR xQ xT xN
            have HX := Lib.hid hX
            replace Rc := Lib.hid x0
            replace BB := Lib.hid xb
            replace KD := Lib.hid xD
            replace KI := Lib.hid xI
            replace KR := Lib.hid xR
            replace KQ := Lib.hid xQ
            replace KT := Lib.hid xT
            replace KN := Lib.hid xN
            clear hX x0 xb xD xI xR xQ xT xN
            go_upto_region 9 with fail
            rw [HX.out]
            clear HX
            clear qN_0 qN_1 lN qI_0 lI c0 f0 lc
            go_wp2_with fail
            refine (rests_wo (t : Int) _).mono ?_
            rw [decide_eq_false h2]
            rintro e U8 ⟨rfl, hw⟩
            have hw2 := hw.symm
            subst hw2
            clear hw
            clear h2
            obtain ⟨qN_0, qN_1⟩ := KN.out.c2w
            have lN := KN.out.lt
            have qI_0 := KI.out.one
            have lI := KI.out.lt
            go_wp2_with fail
            obtain ⟨gB, hBc, hgB, hgBl, -, -⟩ := Rc.out.s.form (by have := List.length_pos_of_mem hm; omega)
            subst hBc
            have HGB := Lib.hid hgB
            have hdel := fun m0 (hm0 : OwnI 3 X6 m0 (some ⟨gB, 0, none⟩) bc st) => del_in gB st.length bc (w.heap.size + 1) m0 st (j : Int) X6 hm0 rfl KI.out (by have := LI_c.out; omega) hm
            obtain ⟨m0, hm1, hm2, hm3⟩ := Rc.out.sx
            refine (hdel m0 hm2).mono ?_
            rintro e U9 ⟨rfl, ho, hg⟩
            have r9 : OwnW U9 U4.heap.size (some ⟨gc, 0, none⟩) ac (some ⟨gB, 0, none⟩) bc (is.set j (t : Int)) (butBt st (j : Int)) := ⟨Rc.out.i.grown hg (by have := Rc.out.ap; simp only [Value.ownBlock]; exact .inr fun e => (this gc rfl) (by injection e with e; rw [← e]; rfl)), m0, hm1, ho, hm3⟩
            have b9 := BB.out.grown hg BB.out.size (by intro q hq; injection hq; have := HBBc.out; omega)
            have xD := KD.out.grown hg (fun q => (Rc.out.s.neBk KD.out (by decide)) (by rw [q]; rfl))
            have xI := KI.out.grown hg (by intro q; injection q; have := LI_c.out; omega)
            have xR := KR.out.grown hg (fun q => (Rc.out.s.neBk KR.out (by decide)) (by rw [q]; rfl))
            have xQ := KQ.out.grown hg (fun q => (Rc.out.s.neBk KQ.out (by decide)) (by rw [q]; rfl))
            have xT := KT.out.grown hg (fun q => (Rc.out.s.neBk KT.out (by decide)) (by rw [q]; rfl))
            have xN := KN.out.grown hg (fun q => (Rc.out.s.neBk KN.out (by decide)) (by rw [q]; rfl))
            clear qN_0 qN_1 lN qI_0 lI
            replace BB := Lib.hid b9
            replace Rc := Lib.hid r9
            replace KD := Lib.hid xD
            replace KI := Lib.hid xI
            replace KR := Lib.hid xR
            replace KQ := Lib.hid xQ
            replace KT := Lib.hid xT
            replace KN := Lib.hid xN
            clear r9 b9 ho hg hm2 hm3 hm1 hdel hgB hgBl xD xI xR xQ xT xN
            obtain ⟨qs, hqs⟩ : ∃ l, butBt st (j : Int) = l := ⟨_, rfl⟩
            rw [hqs] at Rc ⊢
            have HQS := Lib.hid hqs
            clear hqs hm
            obtain ⟨qN_0, qN_1⟩ := KN.out.c2w
            have lN := KN.out.lt
            obtain ⟨fN_0, fN_1⟩ := KN.out.f2w
            have x0 : Bk _ gN 24 #[.slice (some ⟨gc, 0, none⟩) is.length ac, .slice (some ⟨gB, 0, none⟩) qs.length bc] := KN.out.set_ 1 (.slice (some ⟨gB, 0, none⟩) qs.length bc)
            have xb := BB.out.setCell (p := ⟨gN, 1, none⟩) HBN.out (.slice (some ⟨gB, 0, none⟩) qs.length bc)
            have xD := KD.out.far (p := ⟨gN, 1, none⟩) (Nat.ne_of_lt OD_N.out) (.slice (some ⟨gB, 0, none⟩) qs.length bc)
            have xI := KI.out.far (p := ⟨gN, 1, none⟩) (Nat.ne_of_lt OI_N.out) (.slice (some ⟨gB, 0, none⟩) qs.length bc)
            have xR := KR.out.far (p := ⟨gN, 1, none⟩) (Nat.ne_of_lt OR_N.out) (.slice (some ⟨gB, 0, none⟩) qs.length bc)
            have xQ := KQ.out.far (p := ⟨gN, 1, none⟩) (Nat.ne_of_lt OQ_N.out) (.slice (some ⟨gB, 0, none⟩) qs.length bc)
            have xT := KT.out.far (p := ⟨gN, 1, none⟩) (Nat.ne_of_lt OT_N.out) (.slice (some ⟨gB, 0, none⟩) qs.length bc)
            have yc := Rc.out.apart (j := 1) KN.out (by decide) (.slice (some ⟨gB, 0, none⟩) qs.length bc)
            obtain ⟨X8, hX⟩ : ∃ X, World.setCell U9 ⟨gN, 1, none⟩ (.slice (some ⟨gB, 0, none⟩) qs.length bc) = X := ⟨_, rfl⟩
            rw [hX] at x0 xb xD xI xR xQ xT yc
            have HX := Lib.hid hX
            replace KN := Lib.hid x0
            replace BB := Lib.hid xb
            replace KD := Lib.hid xD
            replace KI := Lib.hid xI
            replace KR := Lib.hid xR
            replace KQ := Lib.hid xQ
            replace KT := Lib.hid xT
            replace Rc := Lib.hid yc
            clear hX x0 xb xD xI xR xQ xT yc
            go_upto_region 13 with fail
            rw [HX.out]
            clear HX
            clear qN_0 qN_1 lN fN_0 fN_1
            obtain ⟨qN_0, qN_1⟩ := KN.out.c2w
            have lN := KN.out.lt
            obtain ⟨qT_0, qT_1, qT_2, qT_3⟩ := KT.out.c4w
            have lT := KT.out.lt
            refine calmT_region 5 (S := fun U => Below X8.heap.size X8 U) (by kernel_rfl) (by kernel_rfl) (Below.refl _ _).drew ?_
            refine calmT_to (i := 0) (t := 67) (v := .agg #[.slice (some ⟨gc, 0, none⟩) is.length ac, .slice (some ⟨gB, 0, none⟩) qs.length bc]) rfl rfl (by decide) (by kernel_rfl) (by kernel_rfl) (fun _ _ _ h => h) (calm_of (by kernel_rfl) (fun U hU => by have e0 := (hU.cell (p := ⟨gN, 0, none⟩) lN).trans qN_0; have e1 := (hU.cell (p := ⟨gN, 1, none⟩) lN).trans qN_1; have el := Nat.lt_of_lt_of_le lN hU.size; go_simp)) ?_
            simp only [List.setIfInBounds_toArray, List.set_cons_zero, List.set_cons_succ]
            refine calmT_to (i := 1) (t := 68) (v := .agg #[.int .i64 (manyWo is 0 : Int), .int .i64 (manyWo is 1 : Int), .int .i64 (manyWo is 2 : Int), .int .i64 (manyWo is 3 : Int)]) rfl rfl (by decide) (by kernel_rfl) (by kernel_rfl) (fun _ _ _ h => h) (calm_of (by kernel_rfl) (fun U hU => by have e0 := (hU.cell (p := ⟨gT, 0, none⟩) lT).trans qT_0; have e1 := (hU.cell (p := ⟨gT, 1, none⟩) lT).trans qT_1; have e2 := (hU.cell (p := ⟨gT, 2, none⟩) lT).trans qT_2; have e3 := (hU.cell (p := ⟨gT, 3, none⟩) lT).trans qT_3; have el := Nat.lt_of_lt_of_le lT hU.size; go_simp)) ?_
            simp only [List.setIfInBounds_toArray, List.set_cons_zero, List.set_cons_succ]
            refine calmT_to (i := 2) (t := 69) (v := .int .i64 (f : Int)) rfl rfl (by decide) (by kernel_rfl) (by kernel_rfl) (fun _ _ _ h => h) (calm_move (by kernel_rfl) (.tmp 13) (.inl rfl) rfl) ?_
            simp only [List.setIfInBounds_toArray, List.set_cons_zero, List.set_cons_succ]
            refine calmT_to (i := 3) (t := 70) (v := .int .i64 (t : Int)) rfl rfl (by decide) (by kernel_rfl) (by kernel_rfl) (fun _ _ _ h => h) (calm_move (by kernel_rfl) (.tmp 2) (.inl rfl) rfl) ?_
            simp only [List.setIfInBounds_toArray, List.set_cons_zero, List.set_cons_succ]
            refine calmT_to (i := 4) (t := 71) (v := .agg #[.int .i64 (manyWo (is.set j (t : Int)) 0 : Int), .int .i64 (manyWo (is.set j (t : Int)) 1 : Int), .int .i64 (manyWo (is.set j (t : Int)) 2 : Int), .int .i64 (manyWo (is.set j (t : Int)) 3 : Int)]) rfl rfl (by decide) (by kernel_rfl) (by kernel_rfl) (fun _ _ _ h => h) (calm_call3w (by kernel_rfl) 46 (.tmp 68) (.tmp 69) (.tmp 70) #[46, 3, 3] rfl (enters_of Try.func46 (by kernel_rfl) rfl) (.agg #[.int .i64 (manyWo is 0 : Int), .int .i64 (manyWo is 1 : Int), .int .i64 (manyWo is 2 : Int), .int .i64 (manyWo is 3 : Int)]) (.int .i64 (f : Int)) (.int .i64 (t : Int)) rfl rfl rfl (fun U hU => (HMV.out U).mono fun _ _ q => ⟨q.1, below3 hU q.2⟩)) ?_
            simp only [List.setIfInBounds_toArray, List.set_cons_zero, List.set_cons_succ]
            refine calmT_done _ rfl rfl (by kernel_rfl) (fun U hU => ?_)
            clear qN_0 qN_1 lN qT_0 qT_1 qT_2 qT_3 lT
            replace KD := Lib.hid (KD.out.below hU KD.out.lt)
            replace KI := Lib.hid (KI.out.below hU KI.out.lt)
            replace KR := Lib.hid (KR.out.below hU KR.out.lt)
            replace KQ := Lib.hid (KQ.out.below hU KQ.out.lt)
            replace KT := Lib.hid (KT.out.below hU KT.out.lt)
            replace KN := Lib.hid (KN.out.below hU KN.out.lt)
            replace Rc := Lib.hid (Rc.out.below hU)
            replace BB := Lib.hid (below3 BB.out hU)
            clear hU
            have HLS : Hid ((is.set j (t : Int)).length = is.length) := Lib.hid (by simp)
            obtain ⟨qR_0, qR_1⟩ := KR.out.c2w
            have lR := KR.out.lt
            obtain ⟨fR_0, fR_1⟩ := KR.out.f2w
            obtain ⟨qQ_0, qQ_1, qQ_2, qQ_3⟩ := KQ.out.c4w
            have lQ := KQ.out.lt
            obtain ⟨fQ_0, fQ_1, fQ_2, fQ_3⟩ := KQ.out.f4w
            have B_R := Lib.hid (below_set2w (g := (w.heap.size + 1 + 1)) BB.out HBR.out (.slice (some ⟨gc, 0, none⟩) is.length ac) (.slice (some ⟨gB, 0, none⟩) qs.length bc))
            have S_R := Lib.hid (bk_set2w KR.out (.slice (some ⟨gc, 0, none⟩) is.length ac) (.slice (some ⟨gB, 0, none⟩) qs.length bc))
            have T_R := Lib.hid (ownW_set2 (g := (w.heap.size + 1 + 1)) Rc.out LR_c.out (.slice (some ⟨gc, 0, none⟩) is.length ac) (.slice (some ⟨gB, 0, none⟩) qs.length bc))
            have F_Q_R := Lib.hid (far_set2w KQ.out (Nat.ne_of_gt OR_Q.out) (.slice (some ⟨gc, 0, none⟩) is.length ac) (.slice (some ⟨gB, 0, none⟩) qs.length bc))
            have B_Q := Lib.hid (below_set4w (g := (w.heap.size + 1 + 1 + 1)) B_R.out HBQ.out (.int .i64 (manyWo (is.set j (t : Int)) 0 : Int)) (.int .i64 (manyWo (is.set j (t : Int)) 1 : Int)) (.int .i64 (manyWo (is.set j (t : Int)) 2 : Int)) (.int .i64 (manyWo (is.set j (t : Int)) 3 : Int)))
            have S_Q := Lib.hid (bk_set4w F_Q_R.out (.int .i64 (manyWo (is.set j (t : Int)) 0 : Int)) (.int .i64 (manyWo (is.set j (t : Int)) 1 : Int)) (.int .i64 (manyWo (is.set j (t : Int)) 2 : Int)) (.int .i64 (manyWo (is.set j (t : Int)) 3 : Int)))
            have T_Q := Lib.hid (ownW_set4 (g := (w.heap.size + 1 + 1 + 1)) T_R.out LQ_c.out (.int .i64 (manyWo (is.set j (t : Int)) 0 : Int)) (.int .i64 (manyWo (is.set j (t : Int)) 1 : Int)) (.int .i64 (manyWo (is.set j (t : Int)) 2 : Int)) (.int .i64 (manyWo (is.set j (t : Int)) 3 : Int)))
            have F_R_Q := Lib.hid (far_set4w S_R.out (Nat.ne_of_lt OR_Q.out) (.int .i64 (manyWo (is.set j (t : Int)) 0 : Int)) (.int .i64 (manyWo (is.set j (t : Int)) 1 : Int)) (.int .i64 (manyWo (is.set j (t : Int)) 2 : Int)) (.int .i64 (manyWo (is.set j (t : Int)) 3 : Int)))
            have HBF := Lib.hid (B_Q.out)
            have RR := Lib.hid (T_Q.out)
            unfold set2w set4w at HBF RR
            go_wp2
            obtain ⟨rR_0, rR_1⟩ := (F_R_Q.out).c2w
            obtain ⟨rQ_0, rQ_1, rQ_2, rQ_3⟩ := (S_Q.out).c4w
            unfold set2w set4w at rR_0 rR_1 rQ_0 rQ_1 rQ_2 rQ_3
            exact bodyPost_ret (v := .tuple #[.agg #[.slice (some ⟨gc, 0, none⟩) is.length ac, .slice (some ⟨gB, 0, none⟩) qs.length bc], .agg #[.int .i64 (manyWo (is.set j (t : Int)) 0 : Int), .int .i64 (manyWo (is.set j (t : Int)) 1 : Int), .int .i64 (manyWo (is.set j (t : Int)) 2 : Int), .int .i64 (manyWo (is.set j (t : Int)) 3 : Int)], .int .i64 0]) (by simp [results, Try.results28, go_sem, rR_0, rR_1, rQ_0, rQ_1, rQ_2, rQ_3]) rfl (by rw [HQS.out]; exact ⟨some ⟨gc, 0, none⟩, ac, some ⟨gB, 0, none⟩, bc, by simp, RR.out.base_ HBBc.out, HBF.out⟩)
          · rw [chg_out hiw (by rw [hzj]; exact hmem) h2, but_noneBt hm, Int.toNat_natCast]
            have HT := Lib.hid fun U hU => tally_wo (some ⟨bS, o, none⟩) B n a m b is st U (hi.below hU) (hs.below hU)
            have HTR := Lib.hid (tallyR_ok hok)
            obtain ⟨kb0, kb1, kb2, kb3, hb0⟩ := lies4w w #[.slice (some ⟨bS, o, none⟩) n a, .slice B m b] #[.int .i64 (j : Int)] #[.slice none 0 0, .slice none 0 0] #[.int .i64 0, .int .i64 0, .int .i64 0, .int .i64 0] 24 3 24 46
            obtain ⟨V, hV⟩ : ∃ V, (((w.alloc (.cells #[.slice (some ⟨bS, o, none⟩) n a, .slice B m b] 24)).alloc (.cells #[.int .i64 (j : Int)] 3)).alloc (.cells #[.slice none 0 0, .slice none 0 0] 24)).alloc (.cells #[.int .i64 0, .int .i64 0, .int .i64 0, .int .i64 0] 46) = V := ⟨_, rfl⟩
            rw [hV] at hb0 kb0 kb1 kb2 kb3
            have HV := Lib.hid hV
            have BB := Lib.hid hb0
            have KD := Lib.hid kb0
            have HBD : Hid (w.heap.size ≤ w.heap.size) := Lib.hid (by omega)
            have KI := Lib.hid kb1
            have HBI : Hid (w.heap.size ≤ (w.heap.size + 1)) := Lib.hid (by omega)
            have OD_I : Hid (w.heap.size < (w.heap.size + 1)) := Lib.hid (by omega)
            have KR := Lib.hid kb2
            have HBR : Hid (w.heap.size ≤ (w.heap.size + 1 + 1)) := Lib.hid (by omega)
            have OD_R : Hid (w.heap.size < (w.heap.size + 1 + 1)) := Lib.hid (by omega)
            have OI_R : Hid ((w.heap.size + 1) < (w.heap.size + 1 + 1)) := Lib.hid (by omega)
            have KQ := Lib.hid kb3
            have HBQ : Hid (w.heap.size ≤ (w.heap.size + 1 + 1 + 1)) := Lib.hid (by omega)
            have OD_Q : Hid (w.heap.size < (w.heap.size + 1 + 1 + 1)) := Lib.hid (by omega)
            have OI_Q : Hid ((w.heap.size + 1) < (w.heap.size + 1 + 1 + 1)) := Lib.hid (by omega)
            have OR_Q : Hid ((w.heap.size + 1 + 1) < (w.heap.size + 1 + 1 + 1)) := Lib.hid (by omega)
            clear hV hb0 kb0 kb1 kb2 kb3
            go_enter Try.func28, Try.ntmps28
            go_upto_region 1 with fail
            rw [HV.out]
            clear HV
            obtain ⟨qD_0, qD_1⟩ := KD.out.c2w
            have lD := KD.out.lt
            go_wp2_with fail
            refine (HT.out _ BB.out).mono ?_
            rw [HTR.out]
            try dsimp only
            rintro e U1 ⟨rfl, bU1⟩
            clear qD_0 qD_1 lD
            replace KD := Lib.hid (KD.out.below bU1 KD.out.lt)
            replace KI := Lib.hid (KI.out.below bU1 KI.out.lt)
            replace KR := Lib.hid (KR.out.below bU1 KR.out.lt)
            replace KQ := Lib.hid (KQ.out.below bU1 KQ.out.lt)
            replace BB := Lib.hid (below3 BB.out bU1)
            clear bU1
            have kt := Bk.new U1 46 #[.int .i64 (manyWo is 0 : Int), .int .i64 (manyWo is 1 : Int), .int .i64 (manyWo is 2 : Int), .int .i64 (manyWo is 3 : Int)]
            have ba := (Below.refl U1.heap.size U1).alloc (Nat.le_refl _) (.cells #[.int .i64 (manyWo is 0 : Int), .int .i64 (manyWo is 1 : Int), .int .i64 (manyWo is 2 : Int), .int .i64 (manyWo is 3 : Int)] 46)
            have oD := KD.out.lt
            have oI := KI.out.lt
            have oR := KR.out.lt
            have oQ := KQ.out.lt
            have hgb := BB.out.size
            replace KD := Lib.hid (KD.out.below ba KD.out.lt)
            replace KI := Lib.hid (KI.out.below ba KI.out.lt)
            replace KR := Lib.hid (KR.out.below ba KR.out.lt)
            replace KQ := Lib.hid (KQ.out.below ba KQ.out.lt)
            replace BB := Lib.hid (below3 BB.out ba)
            clear ba
            obtain ⟨W2, hW⟩ : ∃ W, U1.alloc (.cells #[.int .i64 (manyWo is 0 : Int), .int .i64 (manyWo is 1 : Int), .int .i64 (manyWo is 2 : Int), .int .i64 (manyWo is 3 : Int)] 46) = W := ⟨_, rfl⟩
            obtain ⟨gT, hg⟩ : ∃ g, U1.heap.size = g := ⟨_, rfl⟩
            rw [hW] at kt BB KD KI KR KQ
            rw [hg] at kt hgb oD oI oR oQ
            have HW := Lib.hid hW
            have HG := Lib.hid hg
            have KT := Lib.hid kt
            have HBT := Lib.hid hgb
            have OD_T := Lib.hid oD
            have OI_T := Lib.hid oI
            have OR_T := Lib.hid oR
            have OQ_T := Lib.hid oQ
            clear hW hg kt hgb oD oI oR oQ
            go_upto_region 2 with fail
            rw [HW.out]
            try rw [HG.out]
            clear HW HG
            obtain ⟨qD_0, qD_1⟩ := KD.out.c2w
            have lD := KD.out.lt
            have qI_0 := KI.out.one
            have lI := KI.out.lt
            go_wp2_with fail
            refine (isone_wo (some ⟨bS, o, none⟩) B n a m b (j : Int) _).mono ?_
            rw [decide_eq_true hin]
            try dsimp only
            rintro e U3 ⟨rfl, bU3⟩
            clear qD_0 qD_1 lD qI_0 lI
            replace KD := Lib.hid (KD.out.below bU3 KD.out.lt)
            replace KI := Lib.hid (KI.out.below bU3 KI.out.lt)
            replace KR := Lib.hid (KR.out.below bU3 KR.out.lt)
            replace KQ := Lib.hid (KQ.out.below bU3 KQ.out.lt)
            replace KT := Lib.hid (KT.out.below bU3 KT.out.lt)
            replace BB := Lib.hid (below3 BB.out bU3)
            clear bU3
            obtain ⟨qD_0, qD_1⟩ := KD.out.c2w
            have lD := KD.out.lt
            have qI_0 := KI.out.one
            have lI := KI.out.lt
            have c1 := (BB.out.cell (p := ⟨bS, o + j, none⟩) hb).trans c0
            have lb := Nat.lt_of_lt_of_le hb BB.out.size
            go_wp2_with fail
            refine (contains_wo (f : Int) F k c fs _ (hf.below BB.out)).mono ?_
            rw [decide_eq_true hmem]
            try dsimp only
            rintro e U4 ⟨rfl, bU4⟩
            clear qD_0 qD_1 lD qI_0 lI c1 lb
            replace KD := Lib.hid (KD.out.below bU4 KD.out.lt)
            replace KI := Lib.hid (KI.out.below bU4 KI.out.lt)
            replace KR := Lib.hid (KR.out.below bU4 KR.out.lt)
            replace KQ := Lib.hid (KQ.out.below bU4 KQ.out.lt)
            replace KT := Lib.hid (KT.out.below bU4 KT.out.lt)
            replace BB := Lib.hid (below3 BB.out bU4)
            clear bU4
            have HMV := Lib.hid fun U => moved_wo is j f t hjl hf4 ht4 hfz hn64 U
            clear hok HT HTR c0 hb hmem
            obtain ⟨qD_0, qD_1⟩ := KD.out.c2w
            have lD := KD.out.lt
            go_wp2_with fail
            refine (clone_wo (some ⟨bS, o, none⟩) B n a m b is st _ (hi.below BB.out) (hs.below BB.out)).mono ?_
            try dsimp only
            rintro e U5 ⟨Ac, ac, Bc, bc, he, ow, bU5⟩
            try dsimp only at he ow
            subst he
            clear qD_0 qD_1 lD
            obtain ⟨gc, rfl, hga, hgl, -, -⟩ := ow.i.form (by omega)
            have OD_c : Hid (w.heap.size < gc) := Lib.hid (by have := KD.out.lt; omega)
            have OI_c : Hid ((w.heap.size + 1) < gc) := Lib.hid (by have := KI.out.lt; omega)
            have OR_c : Hid ((w.heap.size + 1 + 1) < gc) := Lib.hid (by have := KR.out.lt; omega)
            have OQ_c : Hid ((w.heap.size + 1 + 1 + 1) < gc) := Lib.hid (by have := KQ.out.lt; omega)
            have OT_c : Hid (gT < gc) := Lib.hid (by have := KT.out.lt; omega)
            have HBc : Hid (w.heap.size ≤ gc) := Lib.hid (by have := BB.out.size; omega)
            clear hga hgl
            have LD_c : Hid (w.heap.size < U4.heap.size) := Lib.hid KD.out.lt
            have LI_c : Hid ((w.heap.size + 1) < U4.heap.size) := Lib.hid KI.out.lt
            have LR_c : Hid ((w.heap.size + 1 + 1) < U4.heap.size) := Lib.hid KR.out.lt
            have LQ_c : Hid ((w.heap.size + 1 + 1 + 1) < U4.heap.size) := Lib.hid KQ.out.lt
            have LT_c : Hid (gT < U4.heap.size) := Lib.hid KT.out.lt
            have HBBc : Hid (w.heap.size ≤ U4.heap.size) := Lib.hid BB.out.size
            have Rc := Lib.hid ow
            clear ow
            replace KD := Lib.hid (KD.out.below bU5 KD.out.lt)
            replace KI := Lib.hid (KI.out.below bU5 KI.out.lt)
            replace KR := Lib.hid (KR.out.below bU5 KR.out.lt)
            replace KQ := Lib.hid (KQ.out.below bU5 KQ.out.lt)
            replace KT := Lib.hid (KT.out.below bU5 KT.out.lt)
            replace BB := Lib.hid (below3 BB.out bU5)
            clear bU5
            have kt := Bk.new U5 24 #[.slice (some ⟨gc, 0, none⟩) is.length ac, .slice Bc st.length bc]
            have ba := (Below.refl U5.heap.size U5).alloc (Nat.le_refl _) (.cells #[.slice (some ⟨gc, 0, none⟩) is.length ac, .slice Bc st.length bc] 24)
            have oD := KD.out.lt
            have oI := KI.out.lt
            have oR := KR.out.lt
            have oQ := KQ.out.lt
            have oT := KT.out.lt
            have oc := Rc.out.i.lt
            have hgb := BB.out.size
            replace KD := Lib.hid (KD.out.below ba KD.out.lt)
            replace KI := Lib.hid (KI.out.below ba KI.out.lt)
            replace KR := Lib.hid (KR.out.below ba KR.out.lt)
            replace KQ := Lib.hid (KQ.out.below ba KQ.out.lt)
            replace KT := Lib.hid (KT.out.below ba KT.out.lt)
            replace Rc := Lib.hid (Rc.out.below ba)
            replace BB := Lib.hid (below3 BB.out ba)
            clear ba
            obtain ⟨W6, hW⟩ : ∃ W, U5.alloc (.cells #[.slice (some ⟨gc, 0, none⟩) is.length ac, .slice Bc st.length bc] 24) = W := ⟨_, rfl⟩
            obtain ⟨gN, hg⟩ : ∃ g, U5.heap.size = g := ⟨_, rfl⟩
            rw [hW] at kt BB KD KI KR KQ KT Rc
            rw [hg] at kt hgb oD oI oR oQ oT oc
            have HW := Lib.hid hW
            have HG := Lib.hid hg
            have KN := Lib.hid kt
            have HBN := Lib.hid hgb
            have OD_N := Lib.hid oD
            have OI_N := Lib.hid oI
            have OR_N := Lib.hid oR
            have OQ_N := Lib.hid oQ
            have OT_N := Lib.hid oT
            have Oc_N := Lib.hid oc
            clear hW hg kt hgb oD oI oR oQ oT oc
            go_upto_region 8 with fail
            rw [HW.out]
            try rw [HG.out]
            clear HW HG
            obtain ⟨c0, f0⟩ := Rc.out.i.at_ (j := j) hjl
            have lc := Rc.out.i.lt
            obtain ⟨qN_0, qN_1⟩ := KN.out.c2w
            have lN := KN.out.lt
            have qI_0 := KI.out.one
            have lI := KI.out.lt
            have x0 := Rc.out.setI j (x := (t : Int)) (by unfold Fit; omega)
            have xb := BB.out.setCell (p := ⟨gc, j, none⟩) HBc.out (.int .i64 (t : Int))
            have xD := KD.out.far (p := ⟨gc, j, none⟩) (Nat.ne_of_lt OD_c.out) (.int .i64 (t : Int))
            have xI := KI.out.far (p := ⟨gc, j, none⟩) (Nat.ne_of_lt OI_c.out) (.int .i64 (t : Int))
            have xR := KR.out.far (p := ⟨gc, j, none⟩) (Nat.ne_of_lt OR_c.out) (.int .i64 (t : Int))
            have xQ := KQ.out.far (p := ⟨gc, j, none⟩) (Nat.ne_of_lt OQ_c.out) (.int .i64 (t : Int))
            have xT := KT.out.far (p := ⟨gc, j, none⟩) (Nat.ne_of_lt OT_c.out) (.int .i64 (t : Int))
            have xN := KN.out.far (p := ⟨gc, j, none⟩) (Nat.ne_of_gt Oc_N.out) (.int .i64 (t : Int))
            obtain ⟨X6, hX⟩ : ∃ X, W6.setCell ⟨gc, j, none⟩ (.int .i64 (t : Int)) = X := ⟨_, rfl⟩
            rw [hX] at x0 xb xD xI xR xQ xT xN
            have HX := Lib.hid hX
            replace Rc := Lib.hid x0
            replace BB := Lib.hid xb
            replace KD := Lib.hid xD
            replace KI := Lib.hid xI
            replace KR := Lib.hid xR
            replace KQ := Lib.hid xQ
            replace KT := Lib.hid xT
            replace KN := Lib.hid xN
            clear hX x0 xb xD xI xR xQ xT xN
            go_upto_region 9 with fail
            rw [HX.out]
            clear HX
            clear qN_0 qN_1 lN qI_0 lI c0 f0 lc
            go_wp2_with fail
            refine (rests_wo (t : Int) _).mono ?_
            rw [decide_eq_false h2]
            rintro e U8 ⟨rfl, hw⟩
            have hw2 := hw.symm
            subst hw2
            clear hw
            clear h2
            obtain ⟨qN_0, qN_1⟩ := KN.out.c2w
            have lN := KN.out.lt
            have qI_0 := KI.out.one
            have lI := KI.out.lt
            go_wp2_with fail
            refine (del_out Bc st.length bc (w.heap.size + 1) st (j : Int) _ Rc.out.s.ints KI.out hm).mono ?_
            try dsimp only
            rintro e U9 ⟨rfl, bU9⟩
            clear qN_0 qN_1 lN qI_0 lI
            replace KD := Lib.hid (KD.out.below bU9 KD.out.lt)
            replace KI := Lib.hid (KI.out.below bU9 KI.out.lt)
            replace KR := Lib.hid (KR.out.below bU9 KR.out.lt)
            replace KQ := Lib.hid (KQ.out.below bU9 KQ.out.lt)
            replace KT := Lib.hid (KT.out.below bU9 KT.out.lt)
            replace KN := Lib.hid (KN.out.below bU9 KN.out.lt)
            replace Rc := Lib.hid (Rc.out.below bU9)
            replace BB := Lib.hid (below3 BB.out bU9)
            clear bU9
            obtain ⟨qN_0, qN_1⟩ := KN.out.c2w
            have lN := KN.out.lt
            obtain ⟨fN_0, fN_1⟩ := KN.out.f2w
            have x0 : Bk _ gN 24 #[.slice (some ⟨gc, 0, none⟩) is.length ac, .slice Bc st.length bc] := KN.out.set_ 1 (.slice Bc st.length bc)
            have xb := BB.out.setCell (p := ⟨gN, 1, none⟩) HBN.out (.slice Bc st.length bc)
            have xD := KD.out.far (p := ⟨gN, 1, none⟩) (Nat.ne_of_lt OD_N.out) (.slice Bc st.length bc)
            have xI := KI.out.far (p := ⟨gN, 1, none⟩) (Nat.ne_of_lt OI_N.out) (.slice Bc st.length bc)
            have xR := KR.out.far (p := ⟨gN, 1, none⟩) (Nat.ne_of_lt OR_N.out) (.slice Bc st.length bc)
            have xQ := KQ.out.far (p := ⟨gN, 1, none⟩) (Nat.ne_of_lt OQ_N.out) (.slice Bc st.length bc)
            have xT := KT.out.far (p := ⟨gN, 1, none⟩) (Nat.ne_of_lt OT_N.out) (.slice Bc st.length bc)
            have yc := Rc.out.apart (j := 1) KN.out (by decide) (.slice Bc st.length bc)
            obtain ⟨X9, hX⟩ : ∃ X, World.setCell U9 ⟨gN, 1, none⟩ (.slice Bc st.length bc) = X := ⟨_, rfl⟩
            rw [hX] at x0 xb xD xI xR xQ xT yc
            have HX := Lib.hid hX
            replace KN := Lib.hid x0
            replace BB := Lib.hid xb
            replace KD := Lib.hid xD
            replace KI := Lib.hid xI
            replace KR := Lib.hid xR
            replace KQ := Lib.hid xQ
            replace KT := Lib.hid xT
            replace Rc := Lib.hid yc
            clear hX x0 xb xD xI xR xQ xT yc
            go_upto_region 13 with fail
            rw [HX.out]
            clear HX
            clear qN_0 qN_1 lN fN_0 fN_1
            clear hm
            obtain ⟨qN_0, qN_1⟩ := KN.out.c2w
            have lN := KN.out.lt
            obtain ⟨qT_0, qT_1, qT_2, qT_3⟩ := KT.out.c4w
            have lT := KT.out.lt
            refine calmT_region 5 (S := fun U => Below X9.heap.size X9 U) (by kernel_rfl) (by kernel_rfl) (Below.refl _ _).drew ?_
            refine calmT_to (i := 0) (t := 67) (v := .agg #[.slice (some ⟨gc, 0, none⟩) is.length ac, .slice Bc st.length bc]) rfl rfl (by decide) (by kernel_rfl) (by kernel_rfl) (fun _ _ _ h => h) (calm_of (by kernel_rfl) (fun U hU => by have e0 := (hU.cell (p := ⟨gN, 0, none⟩) lN).trans qN_0; have e1 := (hU.cell (p := ⟨gN, 1, none⟩) lN).trans qN_1; have el := Nat.lt_of_lt_of_le lN hU.size; go_simp)) ?_
            simp only [List.setIfInBounds_toArray, List.set_cons_zero, List.set_cons_succ]
            refine calmT_to (i := 1) (t := 68) (v := .agg #[.int .i64 (manyWo is 0 : Int), .int .i64 (manyWo is 1 : Int), .int .i64 (manyWo is 2 : Int), .int .i64 (manyWo is 3 : Int)]) rfl rfl (by decide) (by kernel_rfl) (by kernel_rfl) (fun _ _ _ h => h) (calm_of (by kernel_rfl) (fun U hU => by have e0 := (hU.cell (p := ⟨gT, 0, none⟩) lT).trans qT_0; have e1 := (hU.cell (p := ⟨gT, 1, none⟩) lT).trans qT_1; have e2 := (hU.cell (p := ⟨gT, 2, none⟩) lT).trans qT_2; have e3 := (hU.cell (p := ⟨gT, 3, none⟩) lT).trans qT_3; have el := Nat.lt_of_lt_of_le lT hU.size; go_simp)) ?_
            simp only [List.setIfInBounds_toArray, List.set_cons_zero, List.set_cons_succ]
            refine calmT_to (i := 2) (t := 69) (v := .int .i64 (f : Int)) rfl rfl (by decide) (by kernel_rfl) (by kernel_rfl) (fun _ _ _ h => h) (calm_move (by kernel_rfl) (.tmp 13) (.inl rfl) rfl) ?_
            simp only [List.setIfInBounds_toArray, List.set_cons_zero, List.set_cons_succ]
            refine calmT_to (i := 3) (t := 70) (v := .int .i64 (t : Int)) rfl rfl (by decide) (by kernel_rfl) (by kernel_rfl) (fun _ _ _ h => h) (calm_move (by kernel_rfl) (.tmp 2) (.inl rfl) rfl) ?_
            simp only [List.setIfInBounds_toArray, List.set_cons_zero, List.set_cons_succ]
            refine calmT_to (i := 4) (t := 71) (v := .agg #[.int .i64 (manyWo (is.set j (t : Int)) 0 : Int), .int .i64 (manyWo (is.set j (t : Int)) 1 : Int), .int .i64 (manyWo (is.set j (t : Int)) 2 : Int), .int .i64 (manyWo (is.set j (t : Int)) 3 : Int)]) rfl rfl (by decide) (by kernel_rfl) (by kernel_rfl) (fun _ _ _ h => h) (calm_call3w (by kernel_rfl) 46 (.tmp 68) (.tmp 69) (.tmp 70) #[46, 3, 3] rfl (enters_of Try.func46 (by kernel_rfl) rfl) (.agg #[.int .i64 (manyWo is 0 : Int), .int .i64 (manyWo is 1 : Int), .int .i64 (manyWo is 2 : Int), .int .i64 (manyWo is 3 : Int)]) (.int .i64 (f : Int)) (.int .i64 (t : Int)) rfl rfl rfl (fun U hU => (HMV.out U).mono fun _ _ q => ⟨q.1, below3 hU q.2⟩)) ?_
            simp only [List.setIfInBounds_toArray, List.set_cons_zero, List.set_cons_succ]
            refine calmT_done _ rfl rfl (by kernel_rfl) (fun U hU => ?_)
            clear qN_0 qN_1 lN qT_0 qT_1 qT_2 qT_3 lT
            replace KD := Lib.hid (KD.out.below hU KD.out.lt)
            replace KI := Lib.hid (KI.out.below hU KI.out.lt)
            replace KR := Lib.hid (KR.out.below hU KR.out.lt)
            replace KQ := Lib.hid (KQ.out.below hU KQ.out.lt)
            replace KT := Lib.hid (KT.out.below hU KT.out.lt)
            replace KN := Lib.hid (KN.out.below hU KN.out.lt)
            replace Rc := Lib.hid (Rc.out.below hU)
            replace BB := Lib.hid (below3 BB.out hU)
            clear hU
            have HLS : Hid ((is.set j (t : Int)).length = is.length) := Lib.hid (by simp)
            obtain ⟨qR_0, qR_1⟩ := KR.out.c2w
            have lR := KR.out.lt
            obtain ⟨fR_0, fR_1⟩ := KR.out.f2w
            obtain ⟨qQ_0, qQ_1, qQ_2, qQ_3⟩ := KQ.out.c4w
            have lQ := KQ.out.lt
            obtain ⟨fQ_0, fQ_1, fQ_2, fQ_3⟩ := KQ.out.f4w
            have B_R := Lib.hid (below_set2w (g := (w.heap.size + 1 + 1)) BB.out HBR.out (.slice (some ⟨gc, 0, none⟩) is.length ac) (.slice Bc st.length bc))
            have S_R := Lib.hid (bk_set2w KR.out (.slice (some ⟨gc, 0, none⟩) is.length ac) (.slice Bc st.length bc))
            have T_R := Lib.hid (ownW_set2 (g := (w.heap.size + 1 + 1)) Rc.out LR_c.out (.slice (some ⟨gc, 0, none⟩) is.length ac) (.slice Bc st.length bc))
            have F_Q_R := Lib.hid (far_set2w KQ.out (Nat.ne_of_gt OR_Q.out) (.slice (some ⟨gc, 0, none⟩) is.length ac) (.slice Bc st.length bc))
            have B_Q := Lib.hid (below_set4w (g := (w.heap.size + 1 + 1 + 1)) B_R.out HBQ.out (.int .i64 (manyWo (is.set j (t : Int)) 0 : Int)) (.int .i64 (manyWo (is.set j (t : Int)) 1 : Int)) (.int .i64 (manyWo (is.set j (t : Int)) 2 : Int)) (.int .i64 (manyWo (is.set j (t : Int)) 3 : Int)))
            have S_Q := Lib.hid (bk_set4w F_Q_R.out (.int .i64 (manyWo (is.set j (t : Int)) 0 : Int)) (.int .i64 (manyWo (is.set j (t : Int)) 1 : Int)) (.int .i64 (manyWo (is.set j (t : Int)) 2 : Int)) (.int .i64 (manyWo (is.set j (t : Int)) 3 : Int)))
            have T_Q := Lib.hid (ownW_set4 (g := (w.heap.size + 1 + 1 + 1)) T_R.out LQ_c.out (.int .i64 (manyWo (is.set j (t : Int)) 0 : Int)) (.int .i64 (manyWo (is.set j (t : Int)) 1 : Int)) (.int .i64 (manyWo (is.set j (t : Int)) 2 : Int)) (.int .i64 (manyWo (is.set j (t : Int)) 3 : Int)))
            have F_R_Q := Lib.hid (far_set4w S_R.out (Nat.ne_of_lt OR_Q.out) (.int .i64 (manyWo (is.set j (t : Int)) 0 : Int)) (.int .i64 (manyWo (is.set j (t : Int)) 1 : Int)) (.int .i64 (manyWo (is.set j (t : Int)) 2 : Int)) (.int .i64 (manyWo (is.set j (t : Int)) 3 : Int)))
            have HBF := Lib.hid (B_Q.out)
            have RR := Lib.hid (T_Q.out)
            unfold set2w set4w at HBF RR
            go_wp2
            obtain ⟨rR_0, rR_1⟩ := (F_R_Q.out).c2w
            obtain ⟨rQ_0, rQ_1, rQ_2, rQ_3⟩ := (S_Q.out).c4w
            unfold set2w set4w at rR_0 rR_1 rQ_0 rQ_1 rQ_2 rQ_3
            exact bodyPost_ret (v := .tuple #[.agg #[.slice (some ⟨gc, 0, none⟩) is.length ac, .slice Bc st.length bc], .agg #[.int .i64 (manyWo (is.set j (t : Int)) 0 : Int), .int .i64 (manyWo (is.set j (t : Int)) 1 : Int), .int .i64 (manyWo (is.set j (t : Int)) 2 : Int), .int .i64 (manyWo (is.set j (t : Int)) 3 : Int)], .int .i64 0]) (by simp [results, Try.results28, go_sem, rR_0, rR_1, rQ_0, rQ_1, rQ_2, rQ_3]) rfl (⟨some ⟨gc, 0, none⟩, ac, Bc, bc, by simp, RR.out.base_ HBBc.out, HBF.out⟩)
      · rw [chg_9 hiw (by rw [hzj]; exact hmem)]
        have HT := Lib.hid fun U hU => tally_wo (some ⟨bS, o, none⟩) B n a m b is st U (hi.below hU) (hs.below hU)
        have HTR := Lib.hid (tallyR_ok hok)
        obtain ⟨kb0, kb1, kb2, kb3, hb0⟩ := lies4w w #[.slice (some ⟨bS, o, none⟩) n a, .slice B m b] #[.int .i64 (j : Int)] #[.slice none 0 0, .slice none 0 0] #[.int .i64 0, .int .i64 0, .int .i64 0, .int .i64 0] 24 3 24 46
        obtain ⟨V, hV⟩ : ∃ V, (((w.alloc (.cells #[.slice (some ⟨bS, o, none⟩) n a, .slice B m b] 24)).alloc (.cells #[.int .i64 (j : Int)] 3)).alloc (.cells #[.slice none 0 0, .slice none 0 0] 24)).alloc (.cells #[.int .i64 0, .int .i64 0, .int .i64 0, .int .i64 0] 46) = V := ⟨_, rfl⟩
        rw [hV] at hb0 kb0 kb1 kb2 kb3
        have HV := Lib.hid hV
        have BB := Lib.hid hb0
        have KD := Lib.hid kb0
        have HBD : Hid (w.heap.size ≤ w.heap.size) := Lib.hid (by omega)
        have KI := Lib.hid kb1
        have HBI : Hid (w.heap.size ≤ (w.heap.size + 1)) := Lib.hid (by omega)
        have OD_I : Hid (w.heap.size < (w.heap.size + 1)) := Lib.hid (by omega)
        have KR := Lib.hid kb2
        have HBR : Hid (w.heap.size ≤ (w.heap.size + 1 + 1)) := Lib.hid (by omega)
        have OD_R : Hid (w.heap.size < (w.heap.size + 1 + 1)) := Lib.hid (by omega)
        have OI_R : Hid ((w.heap.size + 1) < (w.heap.size + 1 + 1)) := Lib.hid (by omega)
        have KQ := Lib.hid kb3
        have HBQ : Hid (w.heap.size ≤ (w.heap.size + 1 + 1 + 1)) := Lib.hid (by omega)
        have OD_Q : Hid (w.heap.size < (w.heap.size + 1 + 1 + 1)) := Lib.hid (by omega)
        have OI_Q : Hid ((w.heap.size + 1) < (w.heap.size + 1 + 1 + 1)) := Lib.hid (by omega)
        have OR_Q : Hid ((w.heap.size + 1 + 1) < (w.heap.size + 1 + 1 + 1)) := Lib.hid (by omega)
        clear hV hb0 kb0 kb1 kb2 kb3
        go_enter Try.func28, Try.ntmps28
        go_upto_region 1 with fail
        rw [HV.out]
        clear HV
        obtain ⟨qD_0, qD_1⟩ := KD.out.c2w
        have lD := KD.out.lt
        go_wp2_with fail
        refine (HT.out _ BB.out).mono ?_
        rw [HTR.out]
        try dsimp only
        rintro e U1 ⟨rfl, bU1⟩
        clear qD_0 qD_1 lD
        replace KD := Lib.hid (KD.out.below bU1 KD.out.lt)
        replace KI := Lib.hid (KI.out.below bU1 KI.out.lt)
        replace KR := Lib.hid (KR.out.below bU1 KR.out.lt)
        replace KQ := Lib.hid (KQ.out.below bU1 KQ.out.lt)
        replace BB := Lib.hid (below3 BB.out bU1)
        clear bU1
        have kt := Bk.new U1 46 #[.int .i64 (manyWo is 0 : Int), .int .i64 (manyWo is 1 : Int), .int .i64 (manyWo is 2 : Int), .int .i64 (manyWo is 3 : Int)]
        have ba := (Below.refl U1.heap.size U1).alloc (Nat.le_refl _) (.cells #[.int .i64 (manyWo is 0 : Int), .int .i64 (manyWo is 1 : Int), .int .i64 (manyWo is 2 : Int), .int .i64 (manyWo is 3 : Int)] 46)
        have oD := KD.out.lt
        have oI := KI.out.lt
        have oR := KR.out.lt
        have oQ := KQ.out.lt
        have hgb := BB.out.size
        replace KD := Lib.hid (KD.out.below ba KD.out.lt)
        replace KI := Lib.hid (KI.out.below ba KI.out.lt)
        replace KR := Lib.hid (KR.out.below ba KR.out.lt)
        replace KQ := Lib.hid (KQ.out.below ba KQ.out.lt)
        replace BB := Lib.hid (below3 BB.out ba)
        clear ba
        obtain ⟨W2, hW⟩ : ∃ W, U1.alloc (.cells #[.int .i64 (manyWo is 0 : Int), .int .i64 (manyWo is 1 : Int), .int .i64 (manyWo is 2 : Int), .int .i64 (manyWo is 3 : Int)] 46) = W := ⟨_, rfl⟩
        obtain ⟨gT, hg⟩ : ∃ g, U1.heap.size = g := ⟨_, rfl⟩
        rw [hW] at kt BB KD KI KR KQ
        rw [hg] at kt hgb oD oI oR oQ
        have HW := Lib.hid hW
        have HG := Lib.hid hg
        have KT := Lib.hid kt
        have HBT := Lib.hid hgb
        have OD_T := Lib.hid oD
        have OI_T := Lib.hid oI
        have OR_T := Lib.hid oR
        have OQ_T := Lib.hid oQ
        clear hW hg kt hgb oD oI oR oQ
        go_upto_region 2 with fail
        rw [HW.out]
        try rw [HG.out]
        clear HW HG
        obtain ⟨qD_0, qD_1⟩ := KD.out.c2w
        have lD := KD.out.lt
        have qI_0 := KI.out.one
        have lI := KI.out.lt
        go_wp2_with fail
        refine (isone_wo (some ⟨bS, o, none⟩) B n a m b (j : Int) _).mono ?_
        rw [decide_eq_true hin]
        try dsimp only
        rintro e U3 ⟨rfl, bU3⟩
        clear qD_0 qD_1 lD qI_0 lI
        replace KD := Lib.hid (KD.out.below bU3 KD.out.lt)
        replace KI := Lib.hid (KI.out.below bU3 KI.out.lt)
        replace KR := Lib.hid (KR.out.below bU3 KR.out.lt)
        replace KQ := Lib.hid (KQ.out.below bU3 KQ.out.lt)
        replace KT := Lib.hid (KT.out.below bU3 KT.out.lt)
        replace BB := Lib.hid (below3 BB.out bU3)
        clear bU3
        obtain ⟨qD_0, qD_1⟩ := KD.out.c2w
        have lD := KD.out.lt
        have qI_0 := KI.out.one
        have lI := KI.out.lt
        have c1 := (BB.out.cell (p := ⟨bS, o + j, none⟩) hb).trans c0
        have lb := Nat.lt_of_lt_of_le hb BB.out.size
        go_wp2_with fail
        refine (contains_wo (f : Int) F k c fs _ (hf.below BB.out)).mono ?_
        rw [decide_eq_false hmem]
        try dsimp only
        rintro e U4 ⟨rfl, bU4⟩
        clear qD_0 qD_1 lD qI_0 lI c1 lb
        replace KD := Lib.hid (KD.out.below bU4 KD.out.lt)
        replace KI := Lib.hid (KI.out.below bU4 KI.out.lt)
        replace KR := Lib.hid (KR.out.below bU4 KR.out.lt)
        replace KQ := Lib.hid (KQ.out.below bU4 KQ.out.lt)
        replace KT := Lib.hid (KT.out.below bU4 KT.out.lt)
        replace BB := Lib.hid (below3 BB.out bU4)
        clear bU4
        clear hok hi hs hf hin HT HTR c0 hb hmem
        obtain ⟨qR_0, qR_1⟩ := KR.out.c2w
        have lR := KR.out.lt
        obtain ⟨fR_0, fR_1⟩ := KR.out.f2w
        obtain ⟨qQ_0, qQ_1, qQ_2, qQ_3⟩ := KQ.out.c4w
        have lQ := KQ.out.lt
        obtain ⟨fQ_0, fQ_1, fQ_2, fQ_3⟩ := KQ.out.f4w
        have B_R := Lib.hid (below_set2w (g := (w.heap.size + 1 + 1)) BB.out HBR.out (.slice none 0 0) (.slice none 0 0))
        have S_R := Lib.hid (bk_set2w KR.out (.slice none 0 0) (.slice none 0 0))
        have F_Q_R := Lib.hid (far_set2w KQ.out (Nat.ne_of_gt OR_Q.out) (.slice none 0 0) (.slice none 0 0))
        have B_Q := Lib.hid (below_set4w (g := (w.heap.size + 1 + 1 + 1)) B_R.out HBQ.out (.int .i64 0) (.int .i64 0) (.int .i64 0) (.int .i64 0))
        have S_Q := Lib.hid (bk_set4w F_Q_R.out (.int .i64 0) (.int .i64 0) (.int .i64 0) (.int .i64 0))
        have F_R_Q := Lib.hid (far_set4w S_R.out (Nat.ne_of_lt OR_Q.out) (.int .i64 0) (.int .i64 0) (.int .i64 0) (.int .i64 0))
        have HBF := Lib.hid (B_Q.out)
        unfold set2w set4w at HBF
        go_wp2
        obtain ⟨rR_0, rR_1⟩ := (F_R_Q.out).c2w
        obtain ⟨rQ_0, rQ_1, rQ_2, rQ_3⟩ := (S_Q.out).c4w
        unfold set2w set4w at rR_0 rR_1 rQ_0 rQ_1 rQ_2 rQ_3
        exact bodyPost_ret (v := .tuple #[.agg #[.slice none 0 0, .slice none 0 0], .agg #[.int .i64 0, .int .i64 0, .int .i64 0, .int .i64 0], .int .i64 9]) (by simp [results, Try.results28, go_sem, rR_0, rR_1, rQ_0, rQ_1, rQ_2, rQ_3]) rfl (chgW_none HBF.out)
    · rw [chg_1 (fun q => hin ⟨q.2.1, by have := q.2.2; have := hi.1; omega⟩)]
      have HT := Lib.hid fun U hU => tally_wo A B n a m b is st U (hi.below hU) (hs.below hU)
      have HTR := Lib.hid (tallyR_ok hok)
      obtain ⟨kb0, kb1, kb2, kb3, hb0⟩ := lies4w w #[.slice A n a, .slice B m b] #[.int .i64 i] #[.slice none 0 0, .slice none 0 0] #[.int .i64 0, .int .i64 0, .int .i64 0, .int .i64 0] 24 3 24 46
      obtain ⟨V, hV⟩ : ∃ V, (((w.alloc (.cells #[.slice A n a, .slice B m b] 24)).alloc (.cells #[.int .i64 i] 3)).alloc (.cells #[.slice none 0 0, .slice none 0 0] 24)).alloc (.cells #[.int .i64 0, .int .i64 0, .int .i64 0, .int .i64 0] 46) = V := ⟨_, rfl⟩
      rw [hV] at hb0 kb0 kb1 kb2 kb3
      have HV := Lib.hid hV
      have BB := Lib.hid hb0
      have KD := Lib.hid kb0
      have HBD : Hid (w.heap.size ≤ w.heap.size) := Lib.hid (by omega)
      have KI := Lib.hid kb1
      have HBI : Hid (w.heap.size ≤ (w.heap.size + 1)) := Lib.hid (by omega)
      have OD_I : Hid (w.heap.size < (w.heap.size + 1)) := Lib.hid (by omega)
      have KR := Lib.hid kb2
      have HBR : Hid (w.heap.size ≤ (w.heap.size + 1 + 1)) := Lib.hid (by omega)
      have OD_R : Hid (w.heap.size < (w.heap.size + 1 + 1)) := Lib.hid (by omega)
      have OI_R : Hid ((w.heap.size + 1) < (w.heap.size + 1 + 1)) := Lib.hid (by omega)
      have KQ := Lib.hid kb3
      have HBQ : Hid (w.heap.size ≤ (w.heap.size + 1 + 1 + 1)) := Lib.hid (by omega)
      have OD_Q : Hid (w.heap.size < (w.heap.size + 1 + 1 + 1)) := Lib.hid (by omega)
      have OI_Q : Hid ((w.heap.size + 1) < (w.heap.size + 1 + 1 + 1)) := Lib.hid (by omega)
      have OR_Q : Hid ((w.heap.size + 1 + 1) < (w.heap.size + 1 + 1 + 1)) := Lib.hid (by omega)
      clear hV hb0 kb0 kb1 kb2 kb3
      go_enter Try.func28, Try.ntmps28
      go_upto_region 1 with fail
      rw [HV.out]
      clear HV
      obtain ⟨qD_0, qD_1⟩ := KD.out.c2w
      have lD := KD.out.lt
      go_wp2_with fail
      refine (HT.out _ BB.out).mono ?_
      rw [HTR.out]
      try dsimp only
      rintro e U1 ⟨rfl, bU1⟩
      clear qD_0 qD_1 lD
      replace KD := Lib.hid (KD.out.below bU1 KD.out.lt)
      replace KI := Lib.hid (KI.out.below bU1 KI.out.lt)
      replace KR := Lib.hid (KR.out.below bU1 KR.out.lt)
      replace KQ := Lib.hid (KQ.out.below bU1 KQ.out.lt)
      replace BB := Lib.hid (below3 BB.out bU1)
      clear bU1
      have kt := Bk.new U1 46 #[.int .i64 (manyWo is 0 : Int), .int .i64 (manyWo is 1 : Int), .int .i64 (manyWo is 2 : Int), .int .i64 (manyWo is 3 : Int)]
      have ba := (Below.refl U1.heap.size U1).alloc (Nat.le_refl _) (.cells #[.int .i64 (manyWo is 0 : Int), .int .i64 (manyWo is 1 : Int), .int .i64 (manyWo is 2 : Int), .int .i64 (manyWo is 3 : Int)] 46)
      have oD := KD.out.lt
      have oI := KI.out.lt
      have oR := KR.out.lt
      have oQ := KQ.out.lt
      have hgb := BB.out.size
      replace KD := Lib.hid (KD.out.below ba KD.out.lt)
      replace KI := Lib.hid (KI.out.below ba KI.out.lt)
      replace KR := Lib.hid (KR.out.below ba KR.out.lt)
      replace KQ := Lib.hid (KQ.out.below ba KQ.out.lt)
      replace BB := Lib.hid (below3 BB.out ba)
      clear ba
      obtain ⟨W2, hW⟩ : ∃ W, U1.alloc (.cells #[.int .i64 (manyWo is 0 : Int), .int .i64 (manyWo is 1 : Int), .int .i64 (manyWo is 2 : Int), .int .i64 (manyWo is 3 : Int)] 46) = W := ⟨_, rfl⟩
      obtain ⟨gT, hg⟩ : ∃ g, U1.heap.size = g := ⟨_, rfl⟩
      rw [hW] at kt BB KD KI KR KQ
      rw [hg] at kt hgb oD oI oR oQ
      have HW := Lib.hid hW
      have HG := Lib.hid hg
      have KT := Lib.hid kt
      have HBT := Lib.hid hgb
      have OD_T := Lib.hid oD
      have OI_T := Lib.hid oI
      have OR_T := Lib.hid oR
      have OQ_T := Lib.hid oQ
      clear hW hg kt hgb oD oI oR oQ
      go_upto_region 2 with fail
      rw [HW.out]
      try rw [HG.out]
      clear HW HG
      obtain ⟨qD_0, qD_1⟩ := KD.out.c2w
      have lD := KD.out.lt
      have qI_0 := KI.out.one
      have lI := KI.out.lt
      go_wp2_with fail
      refine (isone_wo A B n a m b i _).mono ?_
      rw [decide_eq_false hin]
      try dsimp only
      rintro e U3 ⟨rfl, bU3⟩
      clear qD_0 qD_1 lD qI_0 lI
      replace KD := Lib.hid (KD.out.below bU3 KD.out.lt)
      replace KI := Lib.hid (KI.out.below bU3 KI.out.lt)
      replace KR := Lib.hid (KR.out.below bU3 KR.out.lt)
      replace KQ := Lib.hid (KQ.out.below bU3 KQ.out.lt)
      replace KT := Lib.hid (KT.out.below bU3 KT.out.lt)
      replace BB := Lib.hid (below3 BB.out bU3)
      clear bU3
      clear hok hi hs hf hin HT HTR
      obtain ⟨qR_0, qR_1⟩ := KR.out.c2w
      have lR := KR.out.lt
      obtain ⟨fR_0, fR_1⟩ := KR.out.f2w
      obtain ⟨qQ_0, qQ_1, qQ_2, qQ_3⟩ := KQ.out.c4w
      have lQ := KQ.out.lt
      obtain ⟨fQ_0, fQ_1, fQ_2, fQ_3⟩ := KQ.out.f4w
      have B_R := Lib.hid (below_set2w (g := (w.heap.size + 1 + 1)) BB.out HBR.out (.slice none 0 0) (.slice none 0 0))
      have S_R := Lib.hid (bk_set2w KR.out (.slice none 0 0) (.slice none 0 0))
      have F_Q_R := Lib.hid (far_set2w KQ.out (Nat.ne_of_gt OR_Q.out) (.slice none 0 0) (.slice none 0 0))
      have B_Q := Lib.hid (below_set4w (g := (w.heap.size + 1 + 1 + 1)) B_R.out HBQ.out (.int .i64 0) (.int .i64 0) (.int .i64 0) (.int .i64 0))
      have S_Q := Lib.hid (bk_set4w F_Q_R.out (.int .i64 0) (.int .i64 0) (.int .i64 0) (.int .i64 0))
      have F_R_Q := Lib.hid (far_set4w S_R.out (Nat.ne_of_lt OR_Q.out) (.int .i64 0) (.int .i64 0) (.int .i64 0) (.int .i64 0))
      have HBF := Lib.hid (B_Q.out)
      unfold set2w set4w at HBF
      go_wp2
      obtain ⟨rR_0, rR_1⟩ := (F_R_Q.out).c2w
      obtain ⟨rQ_0, rQ_1, rQ_2, rQ_3⟩ := (S_Q.out).c4w
      unfold set2w set4w at rR_0 rR_1 rQ_0 rQ_1 rQ_2 rQ_3
      exact bodyPost_ret (v := .tuple #[.agg #[.slice none 0 0, .slice none 0 0], .agg #[.int .i64 0, .int .i64 0, .int .i64 0, .int .i64 0], .int .i64 1]) (by simp [results, Try.results28, go_sem, rR_0, rR_1, rQ_0, rQ_1, rQ_2, rQ_3]) rfl (chgW_none HBF.out)
  · rw [chg_1 (fun q => hok q.1)]
    have HT := Lib.hid fun U hU => tally_wo A B n a m b is st U (hi.below hU) (hs.below hU)
    have HTR := Lib.hid (tallyR_no hok)
    clear hok hi hs hf
    obtain ⟨kb0, kb1, kb2, kb3, hb0⟩ := lies4w w #[.slice A n a, .slice B m b] #[.int .i64 i] #[.slice none 0 0, .slice none 0 0] #[.int .i64 0, .int .i64 0, .int .i64 0, .int .i64 0] 24 3 24 46
    obtain ⟨V, hV⟩ : ∃ V, (((w.alloc (.cells #[.slice A n a, .slice B m b] 24)).alloc (.cells #[.int .i64 i] 3)).alloc (.cells #[.slice none 0 0, .slice none 0 0] 24)).alloc (.cells #[.int .i64 0, .int .i64 0, .int .i64 0, .int .i64 0] 46) = V := ⟨_, rfl⟩
    rw [hV] at hb0 kb0 kb1 kb2 kb3
    have HV := Lib.hid hV
    have BB := Lib.hid hb0
    have KD := Lib.hid kb0
    have HBD : Hid (w.heap.size ≤ w.heap.size) := Lib.hid (by omega)
    have KI := Lib.hid kb1
    have HBI : Hid (w.heap.size ≤ (w.heap.size + 1)) := Lib.hid (by omega)
    have OD_I : Hid (w.heap.size < (w.heap.size + 1)) := Lib.hid (by omega)
    have KR := Lib.hid kb2
    have HBR : Hid (w.heap.size ≤ (w.heap.size + 1 + 1)) := Lib.hid (by omega)
    have OD_R : Hid (w.heap.size < (w.heap.size + 1 + 1)) := Lib.hid (by omega)
    have OI_R : Hid ((w.heap.size + 1) < (w.heap.size + 1 + 1)) := Lib.hid (by omega)
    have KQ := Lib.hid kb3
    have HBQ : Hid (w.heap.size ≤ (w.heap.size + 1 + 1 + 1)) := Lib.hid (by omega)
    have OD_Q : Hid (w.heap.size < (w.heap.size + 1 + 1 + 1)) := Lib.hid (by omega)
    have OI_Q : Hid ((w.heap.size + 1) < (w.heap.size + 1 + 1 + 1)) := Lib.hid (by omega)
    have OR_Q : Hid ((w.heap.size + 1 + 1) < (w.heap.size + 1 + 1 + 1)) := Lib.hid (by omega)
    clear hV hb0 kb0 kb1 kb2 kb3
    go_enter Try.func28, Try.ntmps28
    go_upto_region 1 with fail
    rw [HV.out]
    clear HV
    obtain ⟨qD_0, qD_1⟩ := KD.out.c2w
    have lD := KD.out.lt
    go_wp2_with fail
    refine (HT.out _ BB.out).mono ?_
    rw [HTR.out]
    try dsimp only
    rintro e U1 ⟨rfl, bU1⟩
    clear qD_0 qD_1 lD
    replace KD := Lib.hid (KD.out.below bU1 KD.out.lt)
    replace KI := Lib.hid (KI.out.below bU1 KI.out.lt)
    replace KR := Lib.hid (KR.out.below bU1 KR.out.lt)
    replace KQ := Lib.hid (KQ.out.below bU1 KQ.out.lt)
    replace BB := Lib.hid (below3 BB.out bU1)
    clear bU1
    have kt := Bk.new U1 46 #[.int .i64 0, .int .i64 0, .int .i64 0, .int .i64 0]
    have ba := (Below.refl U1.heap.size U1).alloc (Nat.le_refl _) (.cells #[.int .i64 0, .int .i64 0, .int .i64 0, .int .i64 0] 46)
    have oD := KD.out.lt
    have oI := KI.out.lt
    have oR := KR.out.lt
    have oQ := KQ.out.lt
    have hgb := BB.out.size
    replace KD := Lib.hid (KD.out.below ba KD.out.lt)
    replace KI := Lib.hid (KI.out.below ba KI.out.lt)
    replace KR := Lib.hid (KR.out.below ba KR.out.lt)
    replace KQ := Lib.hid (KQ.out.below ba KQ.out.lt)
    replace BB := Lib.hid (below3 BB.out ba)
    clear ba
    obtain ⟨W2, hW⟩ : ∃ W, U1.alloc (.cells #[.int .i64 0, .int .i64 0, .int .i64 0, .int .i64 0] 46) = W := ⟨_, rfl⟩
    obtain ⟨gT, hg⟩ : ∃ g, U1.heap.size = g := ⟨_, rfl⟩
    rw [hW] at kt BB KD KI KR KQ
    rw [hg] at kt hgb oD oI oR oQ
    have HW := Lib.hid hW
    have HG := Lib.hid hg
    have KT := Lib.hid kt
    have HBT := Lib.hid hgb
    have OD_T := Lib.hid oD
    have OI_T := Lib.hid oI
    have OR_T := Lib.hid oR
    have OQ_T := Lib.hid oQ
    clear hW hg kt hgb oD oI oR oQ
    go_upto_region 2 with fail
    rw [HW.out]
    try rw [HG.out]
    clear HW HG
    clear HT HTR
    obtain ⟨qR_0, qR_1⟩ := KR.out.c2w
    have lR := KR.out.lt
    obtain ⟨fR_0, fR_1⟩ := KR.out.f2w
    obtain ⟨qQ_0, qQ_1, qQ_2, qQ_3⟩ := KQ.out.c4w
    have lQ := KQ.out.lt
    obtain ⟨fQ_0, fQ_1, fQ_2, fQ_3⟩ := KQ.out.f4w
    have B_R := Lib.hid (below_set2w (g := (w.heap.size + 1 + 1)) BB.out HBR.out (.slice none 0 0) (.slice none 0 0))
    have S_R := Lib.hid (bk_set2w KR.out (.slice none 0 0) (.slice none 0 0))
    have F_Q_R := Lib.hid (far_set2w KQ.out (Nat.ne_of_gt OR_Q.out) (.slice none 0 0) (.slice none 0 0))
    have B_Q := Lib.hid (below_set4w (g := (w.heap.size + 1 + 1 + 1)) B_R.out HBQ.out (.int .i64 0) (.int .i64 0) (.int .i64 0) (.int .i64 0))
    have S_Q := Lib.hid (bk_set4w F_Q_R.out (.int .i64 0) (.int .i64 0) (.int .i64 0) (.int .i64 0))
    have F_R_Q := Lib.hid (far_set4w S_R.out (Nat.ne_of_lt OR_Q.out) (.int .i64 0) (.int .i64 0) (.int .i64 0) (.int .i64 0))
    have HBF := Lib.hid (B_Q.out)
    unfold set2w set4w at HBF
    go_wp2
    obtain ⟨rR_0, rR_1⟩ := (F_R_Q.out).c2w
    obtain ⟨rQ_0, rQ_1, rQ_2, rQ_3⟩ := (S_Q.out).c4w
    unfold set2w set4w at rR_0 rR_1 rQ_0 rQ_1 rQ_2 rQ_3
    exact bodyPost_ret (v := .tuple #[.agg #[.slice none 0 0, .slice none 0 0], .agg #[.int .i64 0, .int .i64 0, .int .i64 0, .int .i64 0], .int .i64 1]) (by simp [results, Try.results28, go_sem, rR_0, rR_1, rQ_0, rQ_1, rQ_2, rQ_3]) rfl (chgW_none HBF.out)

end Go.Proofs.Ytmndkofdoclihaa

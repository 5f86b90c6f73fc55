/-
  The law HeapTimes: whatever is added, cancelled, set to another time, and expired: the heap may be, and what expires is due: the walk.
-/
import Derived.Test.YtjamoafihmcmeaaLHd
import Derived.Test.YtjamoafihmcmeaaLHOrders
import Derived.Test.YtjamoafihmcmeaaPRowT
namespace Go.Proofs.Ytjamoafihmcmeaa
open Go.RowKit Go.Maps

theorem gb_past {a b d : World} {r row : Option Nat} (h : a.grownBy b r) (k : b.grownBy d row) (hr : ∀ j, row = some j → a.heap.size ≤ j) : a.grownBy d r :=
  ⟨k.os.trans h.os, k.tape.trans h.tape, k.output.trans h.output, Nat.le_trans h.size k.size, fun i hi hn => (k.block i (Nat.lt_of_lt_of_le hi h.size) (fun e => by have := hr i e.symm; omega)).trans (h.block i hi hn)⟩
theorem OwnT.past {E : TypeId} {w w' : World} {base : Nat} {A : Option Addr} {c : Nat} {p : List Tm} {b : Nat} (h : OwnT E w base A c p) (hg : w.grownBy w' (some b)) (hb : b < base) : OwnT E w' base A c p := h.grown hg (by
  cases hv : (Value.slice A p.length c).ownBlock with
  | none => exact .inl rfl
  | some k => exact .inr (fun e => by injection e with e; have := h.block k hv; omega))
theorem OwnI.past {E : TypeId} {w w' : World} {base : Nat} {A : Option Addr} {c : Nat} {p : List Int} {b : Nat} (h : OwnI E w base A c p) (hg : w.grownBy w' (some b)) (hb : b < base) : OwnI E w' base A c p := h.grown8 hg (by
  cases hv : (Value.slice A p.length c).ownBlock with
  | none => exact .inl rfl
  | some k => exact .inr (fun e => by injection e with e; have := h.block k hv; omega))
theorem leftS_noTwo {m ds r : List Tm} (h : NoTwo m) (hp : m.Perm (leftS ds r 0)) (j : Nat) : NoTwo (leftS ds r j) := by
  have h1 := (noTwo_perm hp).1 h
  unfold NoTwo leftS at *
  rw [List.drop_zero] at h1
  exact (List.Sublist.map _ ((List.drop_sublist j ds).append_right r)).nodup h1
/-- What comes next of what is due. -/
theorem due_at {m ds r : List Tm} {now : Int} (hm : heapOk m) (hds : dueT m now = ds) (hr : leftL m now = r) {j : Nat} (hj : j < ds.length) {x1 x2 : Int} (hx : ith ds j = (x1, x2)) :
    x1 ≤ now ∧ lessT (lastT ds j) (x1, x2) ∧ lessId (leftS ds r j) x2 = leftS ds r (j + 1) ∧ (x1, x2) ∈ leftS ds r j ∧ NoTwo (leftS ds r j) ∧ lastT ds (j + 1) = (x1, x2) ∧ hasId (leftS ds r j) x2 := by
  subst hds hr
  have hp := due_start m now
  have hn := leftS_noTwo hm.noTwo hp j
  obtain ⟨h1, h2⟩ := leftS_step hj hx hn
  have h3 := due_strict hm now hj
  have h4 := due_le hj
  rw [hx] at h3 h4
  refine ⟨h4, h3, h1, h2, hn, ?_, hasId_iff.2 (List.mem_map.2 ⟨_, h2, rfl⟩)⟩
  unfold lastT
  rw [if_neg (by omega), Nat.add_sub_cancel, hx]
theorem leftS_end {ds r : List Tm} {j : Nat} (h : j = ds.length) : leftS ds r j = r := by
  unfold leftS
  rw [h, List.drop_length, List.nil_append]
theorem cancel_has {l : List Tm} {id z : Int} {a : List Tm} (h : heapOk l) (hi : hasId l id) (s : CancelSpec l id z a) : z = 0 ∧ heapOk a ∧ a.Perm (lessId l id) := by
  have hz : z = 0 := by rw [s.1, cancelR, if_pos h, if_pos hi]
  exact ⟨hz, s.2.2 hz⟩
theorem cancel_hasnt {l : List Tm} {id z : Int} {a : List Tm} (h : heapOk l) (hi : ¬ hasId l id) (s : CancelSpec l id z a) : z = 5 := by rw [s.1, cancelR, if_pos h, if_neg hi]
theorem add_bad {l : List Tm} {t : Tm} {z : Int} {a : List Tm} (hi : ¬ mayT t) (s : AddSpec l t z a) : z = 1 := by rw [s.1, addR, if_neg (fun q => hi q.2)]
theorem add_there {l : List Tm} {t : Tm} {z : Int} {a : List Tm} (h : heapOk l) (hm : mayT t) (hi : hasId l t.2) (s : AddSpec l t z a) : z = 6 := by rw [s.1, addR, if_pos ⟨h, hm⟩, if_pos hi]
theorem reset_has {l : List Tm} {id at_ z : Int} {a : List Tm} (h : heapOk l) (h0 : 0 ≤ at_) (h1 : at_ ≤ 1125899906842624) (hi : hasId l id) (s : ResetSpec l id at_ z a) : z = 0 ∧ heapOk a ∧ a.Perm ((at_, id) :: lessId l id) := by
  have hz : z = 0 := by rw [s.1, resetR, if_pos ⟨h, h0, h1⟩, if_pos hi]
  exact ⟨hz, s.2.2 hz⟩
theorem reset_not {l : List Tm} {id at_ z : Int} {a : List Tm} (h : ¬ (0 ≤ at_ ∧ at_ ≤ 1125899906842624 ∧ hasId l id)) (s : ResetSpec l id at_ z a) : z ≠ 0 := fun q => by
  obtain ⟨_, h1, h2, h3⟩ := reset_zero (s.1.symm.trans q)
  exact h ⟨h1, h2, h3⟩

set_option maxRecDepth 100000 in
set_option maxHeartbeats 8000000 in
theorem ltimes_any (A : Option Addr) (n c : Nat) (l : List O3) (w : World) (hx : Ops8 w A n c l) :
    Calls Try.prog 5 #[.slice A n c] w (TrueAns w) := by
  have HX := Lib.hid hx
  have LX := Lib.hid hx.1
  have hnc := hx.2.1
  have BB := Lib.hid (Below.refl w.heap.size w)
  have mk : ∀ w, (Instr.makeMap 44 none).run Try.prog w = .ok (.map (some w.heap.size)) (w.alloc (.map #[] 0)) := fun w => rfl
  clear hx
  go_enter Try.func5, Try.ntmps5
  go_wp2_with fail
  refine (live_any _).mono ?_
  rintro e w1 ⟨rfl, b1⟩
  replace HX := Lib.hid (HX.out.below b1)
  replace BB := Lib.hid (below3 BB.out b1)
  clear b1
  by_cases h120 : 120 < n
  · go_wp2_with fail
    go_ret
    exact ⟨rfl, BB.out⟩
  have h120' : n ≤ 120 := by omega
  obtain ⟨b, hb⟩ : ∃ b, w1.heap.size = b := ⟨_, rfl⟩
  have HBB := Lib.hid hb
  have M0 := Lib.hid (DueM.made w1)
  have C0 := Lib.hid ((Below.refl w1.heap.size w1).alloc (Nat.le_refl _) (.map #[] 0))
  have TA := Lib.hid (Tms.nil_ (w1.alloc (.map #[] 0)) none (c := 0) (by decide))
  have K0 := Lib.hid (show heapOk [] ∧ ([] : List Tm).length ≤ 0 from ⟨heapOk_nil, Nat.le_refl _⟩)
  rw [hb] at M0
  clear hb
  go_wp2_with fail
  rw [HBB.out]
  go_loopw [36, 4] (fun t u wr => ∃ (k : Nat) (An : Option Addr) (cn : Nat) (m : List Tm), t = .int .i64 (k : Int) ∧ u = .slice An m.length cn ∧ k ≤ n ∧ Hid (heapOk m ∧ m.length ≤ k) ∧ Hid (Tms wr An m.length cn m) ∧ Hid (DueM wr b k m) ∧ Hid (Below w1.heap.size w1 wr)) (fun t _ _ => n - (intOf t).toNat)
  case atStart => exact ⟨0, none, 0, [], rfl, rfl, Nat.zero_le _, K0, TA, M0, C0⟩
  case round =>
    clear M0 C0 TA K0
    rename World => wr
    obtain ⟨k, An, cn, m, rfl, rfl, hk, HK, TN, DM, BW⟩ := hrel
    by_cases hkn : k < n
    · obtain ⟨bA, oA, rfl, hbA, zall⟩ := (HX.out.below BW.out).2.2.2 (by omega)
      obtain ⟨c0, c1, c2⟩ := zall k hkn
      clear zall
      have hfo : FitO (oth l k) := by rw [oth_get (by rw [LX.out]; exact hkn)]; exact HX.out.2.2.1 _ (List.getElem_mem _)
      obtain ⟨⟨kd, oi, oat⟩, ho⟩ : ∃ v, oth l k = v := ⟨_, rfl⟩
      rw [ho] at c0 c1 c2 hfo
      simp only at c0 c1 c2
      obtain ⟨fk, fi, fa⟩ := hfo
      have FI := Lib.hid (show Fit oi from fi)
      have FA := Lib.hid (show Fit oat from fa)
      have k1 := Bk.new wr 46 #[.int .i64 kd, .int .i64 oi, .int .i64 oat]
      have b1 := (Below.refl wr.heap.size wr).alloc (Nat.le_refl _) (.cells #[.int .i64 kd, .int .i64 oi, .int .i64 oat] 46)
      obtain ⟨gu, hgu⟩ : ∃ g, wr.heap.size = g := ⟨_, rfl⟩
      have hbg : b < gu := by rw [← hgu]; exact DM.out.lt
      have hwb : w1.heap.size ≤ b := by rw [HBB.out]; exact Nat.le_refl _
      obtain ⟨V, hV⟩ : ∃ V, wr.alloc (.cells #[.int .i64 kd, .int .i64 oi, .int .i64 oat] 46) = V := ⟨_, rfl⟩
      rw [hV] at b1 k1
      rw [hgu] at k1
      have hmk := HK.out.2
      have hgV : gu < V.heap.size := k1.lt
      have DV := Lib.hid (DM.out.below b1)
      have TV := Lib.hid (TN.out.below b1)
      have BV := Lib.hid (below3 BW.out b1)
      have KV := Lib.hid k1
      have HV := Lib.hid hV
      have HGU := Lib.hid hgu
      clear hV hgu k1 b1 ho fk fi fa TN DM BW
      go_upto_region 11 with fail
      rw [HV.out]
      try rw [HGU.out]
      clear HV HGU c0 c1 c2 hbA
      obtain ⟨v, hget, -⟩ := DV.out.get FI.out
      obtain ⟨is, his⟩ : ∃ q, decide (hasId m oi) = q := ⟨_, rfl⟩
      rw [his] at hget
      have HIS := Lib.hid his
      have q0 : _ = some (Value.int .i64 kd) := KV.out.cell 0
      have q1 : _ = some (Value.int .i64 oi) := KV.out.cell 1
      have q2 : _ = some (Value.int .i64 oat) := KV.out.cell 2
      have lq := KV.out.lt
      have hr3 : -3 ≤ kd.tmod 4 ∧ kd.tmod 4 ≤ 3 := by
        have h1 := Int.tmod_lt_of_pos kd (show (0 : Int) < 4 by decide)
        have h2 := Int.neg_tmod kd 4
        have h3 := Int.tmod_lt_of_pos (-kd) (show (0 : Int) < 4 by decide)
        omega
      clear his
      by_cases r0 : kd.tmod 4 = 0
      · as_aux_lemma =>
          clear hr3
          go_wp2_with fail
          have HR := Lib.hid r0
          clear r0
          refine (padd_any An _ cn m oat oi _ TV.out FA.out FI.out).mono ?_
          rintro e w5 ⟨A5, c5, a5, z5, rfl, s5, o5, b5⟩
          replace DV := Lib.hid (DV.out.below b5)
          replace TV := Lib.hid (TV.out.below b5)
          replace BV := Lib.hid (below3 BV.out b5)
          replace KV := Lib.hid (KV.out.below b5 KV.out.lt)
          clear q0 q1 q2 lq hget
          have q0 : _ = some (Value.int .i64 kd) := KV.out.cell 0
          have q1 : _ = some (Value.int .i64 oi) := KV.out.cell 1
          have q2 : _ = some (Value.int .i64 oat) := KV.out.cell 2
          have lq := KV.out.lt
          have S5 := Lib.hid s5
          have O5 := Lib.hid o5
          clear s5 o5 b5
          by_cases hi0 : oi < 0
          · have d0 : decide (oi < 0) = true := decide_eq_true hi0
            have hz := add_bad (fun q => by have := q.2.2; simp only at this; omega) S5.out
            subst hz
            clear S5 O5
            go_wp2_with fail
            refine (pcheck_any An _ cn m _ TV.out).mono ?_
            rw [if_pos HK.out.1]
            rintro e w9 ⟨rfl, b9⟩
            have TE := Lib.hid (TV.out.below b9)
            have DE := Lib.hid ((DV.out.below b9).mono (n' := k + 1) (by omega))
            have BE := Lib.hid (below3 BV.out b9)
            have HE := Lib.hid (show heapOk m ∧ m.length ≤ k + 1 from ⟨HK.out.1, by have := HK.out.2; omega⟩)
            have hlen := DE.out.len
            clear b9
            go_wp2_with fail
            go_roundw
            case rel => exact ⟨k + 1, An, cn, m, by go_num, rfl, by omega, HE, TE, DE, BE⟩
            case measure => simp only [intOf]; omega
          by_cases ht0 : oat < 0
          · have d0 : decide (oi < 0) = false := decide_eq_false hi0
            have d1 : decide (oat < 0) = true := decide_eq_true ht0
            have hz := add_bad (fun q => by have := q.1; simp only at this; omega) S5.out
            subst hz
            clear S5 O5
            go_wp2_with fail
            refine (pcheck_any An _ cn m _ TV.out).mono ?_
            rw [if_pos HK.out.1]
            rintro e w9 ⟨rfl, b9⟩
            have TE := Lib.hid (TV.out.below b9)
            have DE := Lib.hid ((DV.out.below b9).mono (n' := k + 1) (by omega))
            have BE := Lib.hid (below3 BV.out b9)
            have HE := Lib.hid (show heapOk m ∧ m.length ≤ k + 1 from ⟨HK.out.1, by have := HK.out.2; omega⟩)
            have hlen := DE.out.len
            clear b9
            go_wp2_with fail
            go_roundw
            case rel => exact ⟨k + 1, An, cn, m, by go_num, rfl, by omega, HE, TE, DE, BE⟩
            case measure => simp only [intOf]; omega
          by_cases ht1 : 1125899906842624 < oat
          · have d0 : decide (oi < 0) = false := decide_eq_false hi0
            have d1 : decide (oat < 0) = false := decide_eq_false ht0
            have d2 : decide (1125899906842624 < oat) = true := decide_eq_true ht1
            have hz := add_bad (fun q => by have := q.2.1; simp only at this; omega) S5.out
            subst hz
            clear S5 O5
            go_wp2_with fail
            refine (pcheck_any An _ cn m _ TV.out).mono ?_
            rw [if_pos HK.out.1]
            rintro e w9 ⟨rfl, b9⟩
            have TE := Lib.hid (TV.out.below b9)
            have DE := Lib.hid ((DV.out.below b9).mono (n' := k + 1) (by omega))
            have BE := Lib.hid (below3 BV.out b9)
            have HE := Lib.hid (show heapOk m ∧ m.length ≤ k + 1 from ⟨HK.out.1, by have := HK.out.2; omega⟩)
            have hlen := DE.out.len
            clear b9
            go_wp2_with fail
            go_roundw
            case rel => exact ⟨k + 1, An, cn, m, by go_num, rfl, by omega, HE, TE, DE, BE⟩
            case measure => simp only [intOf]; omega
          have d0 : decide (oi < 0) = false := decide_eq_false hi0
          have d1 : decide (oat < 0) = false := decide_eq_false ht0
          have d2 : decide (1125899906842624 < oat) = false := decide_eq_false ht1
          have hmay : mayT (oat, oi) := ⟨by simp only; omega, by simp only; omega, by simp only; omega⟩
          by_cases hh : hasId m oi
          · have hz := add_there HK.out.1 hmay hh S5.out
            subst hz
            have e1 : is = true := by rw [← HIS.out]; exact decide_eq_true hh
            subst e1
            clear S5 O5
            go_wp2_with fail
            refine (pcheck_any An _ cn m _ TV.out).mono ?_
            rw [if_pos HK.out.1]
            rintro e w9 ⟨rfl, b9⟩
            have TE := Lib.hid (TV.out.below b9)
            have DE := Lib.hid ((DV.out.below b9).mono (n' := k + 1) (by omega))
            have BE := Lib.hid (below3 BV.out b9)
            have HE := Lib.hid (show heapOk m ∧ m.length ≤ k + 1 from ⟨HK.out.1, by have := HK.out.2; omega⟩)
            have hlen := DE.out.len
            clear b9
            go_wp2_with fail
            go_roundw
            case rel => exact ⟨k + 1, An, cn, m, by go_num, rfl, by omega, HE, TE, DE, BE⟩
            case measure => simp only [intOf]; omega
          · obtain ⟨hz, hk5, hp5⟩ := addSpec_ok S5.out HK.out.1 hmay hh (by omega)
            subst hz
            have e1 : is = false := by rw [← HIS.out]; exact decide_eq_false hh
            subst e1
            have HP5 := Lib.hid (show a5.Perm ((oat, oi) :: lessId m oi) by rw [lessId_none hh]; exact hp5)
            have HK5 := Lib.hid (show heapOk a5 ∧ a5.length ≤ k + 1 from ⟨hk5, by rw [hp5.length_eq, List.length_cons]; omega⟩)
            clear S5 hk5 hp5 hh hmay
            obtain ⟨U, hput, m2, g2⟩ := DV.out.put HK.out.1.noTwo FI.out FA.out (by omega)
            have DU := Lib.hid (m2.perm HP5.out.symm)
            have TU := Lib.hid (O5.out.past g2 (by omega)).tms
            have BU := Lib.hid (BV.out.grown g2 BV.out.size (by intro k hk; injection hk with hk; omega))
            clear m2 g2 O5
            go_wp2_with fail
            refine (pcheck_any A5 _ c5 a5 _ TU.out).mono ?_
            rw [if_pos HK5.out.1]
            rintro e w9 ⟨rfl, b9⟩
            have TE := Lib.hid (TU.out.below b9)
            have DE := Lib.hid ((DU.out.below b9).mono (n' := k + 1) (by omega))
            have BE := Lib.hid (below3 BU.out b9)
            have HE := Lib.hid (show heapOk a5 ∧ a5.length ≤ k + 1 from ⟨HK5.out.1, by have := HK5.out.2; omega⟩)
            have hlen := DE.out.len
            clear b9
            go_wp2_with fail
            go_roundw
            case rel => exact ⟨k + 1, A5, c5, a5, by go_num, rfl, by omega, HE, TE, DE, BE⟩
            case measure => simp only [intOf]; omega
      by_cases r1 : kd.tmod 4 = 1
      · as_aux_lemma =>
          clear hr3 r0
          go_wp2_with fail
          have HR := Lib.hid r1
          clear r1
          refine (pcancel_any An _ cn m oi _ TV.out).mono ?_
          rintro e w5 ⟨A5, c5, a5, z5, rfl, s5, o5, b5⟩
          replace DV := Lib.hid (DV.out.below b5)
          replace TV := Lib.hid (TV.out.below b5)
          replace BV := Lib.hid (below3 BV.out b5)
          replace KV := Lib.hid (KV.out.below b5 KV.out.lt)
          clear q0 q1 q2 lq hget
          have q0 : _ = some (Value.int .i64 kd) := KV.out.cell 0
          have q1 : _ = some (Value.int .i64 oi) := KV.out.cell 1
          have q2 : _ = some (Value.int .i64 oat) := KV.out.cell 2
          have lq := KV.out.lt
          have S5 := Lib.hid s5
          have O5 := Lib.hid o5
          clear s5 o5 b5
          by_cases hh : hasId m oi
          · obtain ⟨hz, hk5, hp5⟩ := cancel_has HK.out.1 hh S5.out
            subst hz
            have e1 : is = true := by rw [← HIS.out]; exact decide_eq_true hh
            subst e1
            have HP5 := Lib.hid hp5
            have HK5 := Lib.hid (show heapOk a5 ∧ a5.length ≤ k + 1 from ⟨hk5, by rw [hp5.length_eq]; have := List.length_filter_le (fun t : Tm => t.2 != oi) m; unfold lessId; omega⟩)
            clear S5 hk5 hp5 hh
            obtain ⟨U, hdel, m2, g2⟩ := DV.out.del HK.out.1.noTwo FI.out 0
            have DU := Lib.hid (m2.perm HP5.out.symm)
            have TU := Lib.hid (O5.out.past g2 (by omega)).tms
            have BU := Lib.hid (BV.out.grown g2 BV.out.size (by intro k hk; injection hk with hk; omega))
            clear m2 g2 O5
            go_wp2_with fail
            refine (pcheck_any A5 _ c5 a5 _ TU.out).mono ?_
            rw [if_pos HK5.out.1]
            rintro e w9 ⟨rfl, b9⟩
            have TE := Lib.hid (TU.out.below b9)
            have DE := Lib.hid ((DU.out.below b9).mono (n' := k + 1) (by omega))
            have BE := Lib.hid (below3 BU.out b9)
            have HE := Lib.hid (show heapOk a5 ∧ a5.length ≤ k + 1 from ⟨HK5.out.1, by have := HK5.out.2; omega⟩)
            have hlen := DE.out.len
            clear b9
            go_wp2_with fail
            go_roundw
            case rel => exact ⟨k + 1, A5, c5, a5, by go_num, rfl, by omega, HE, TE, DE, BE⟩
            case measure => simp only [intOf]; omega
          · have hz := cancel_hasnt HK.out.1 hh S5.out
            subst hz
            have e1 : is = false := by rw [← HIS.out]; exact decide_eq_false hh
            subst e1
            clear S5 O5
            go_wp2_with fail
            refine (pcheck_any An _ cn m _ TV.out).mono ?_
            rw [if_pos HK.out.1]
            rintro e w9 ⟨rfl, b9⟩
            have TE := Lib.hid (TV.out.below b9)
            have DE := Lib.hid ((DV.out.below b9).mono (n' := k + 1) (by omega))
            have BE := Lib.hid (below3 BV.out b9)
            have HE := Lib.hid (show heapOk m ∧ m.length ≤ k + 1 from ⟨HK.out.1, by have := HK.out.2; omega⟩)
            have hlen := DE.out.len
            clear b9
            go_wp2_with fail
            go_roundw
            case rel => exact ⟨k + 1, An, cn, m, by go_num, rfl, by omega, HE, TE, DE, BE⟩
            case measure => simp only [intOf]; omega
      by_cases r2 : kd.tmod 4 = 2
      · as_aux_lemma =>
          clear hr3 r0 r1
          go_wp2_with fail
          have HR := Lib.hid r2
          clear r2
          refine (preset_any An _ cn m oi oat _ TV.out FA.out).mono ?_
          rintro e w5 ⟨A5, c5, a5, z5, rfl, s5, o5, b5⟩
          replace DV := Lib.hid (DV.out.below b5)
          replace TV := Lib.hid (TV.out.below b5)
          replace BV := Lib.hid (below3 BV.out b5)
          replace KV := Lib.hid (KV.out.below b5 KV.out.lt)
          clear q0 q1 q2 lq hget
          have q0 : _ = some (Value.int .i64 kd) := KV.out.cell 0
          have q1 : _ = some (Value.int .i64 oi) := KV.out.cell 1
          have q2 : _ = some (Value.int .i64 oat) := KV.out.cell 2
          have lq := KV.out.lt
          have S5 := Lib.hid s5
          have O5 := Lib.hid o5
          clear s5 o5 b5
          by_cases hh : hasId m oi
          · have e1 : is = true := by rw [← HIS.out]; exact decide_eq_true hh
            subst e1
            by_cases ht0 : 0 ≤ oat
            · by_cases ht1 : oat ≤ 1125899906842624
              · have d1 : decide (0 ≤ oat) = true := decide_eq_true ht0
                have d2 : decide (oat ≤ 1125899906842624) = true := decide_eq_true ht1
                obtain ⟨hz, hk5, hp5⟩ := reset_has HK.out.1 ht0 ht1 hh S5.out
                subst hz
                have HP5 := Lib.hid hp5
                have HK5 := Lib.hid (show heapOk a5 ∧ a5.length ≤ k + 1 from ⟨hk5, by rw [hp5.length_eq, List.length_cons]; have := List.length_filter_le (fun t : Tm => t.2 != oi) m; unfold lessId; omega⟩)
                clear S5 hk5 hp5 hh
                obtain ⟨U, hput, m2, g2⟩ := DV.out.put HK.out.1.noTwo FI.out FA.out (by omega)
                have DU := Lib.hid (m2.perm HP5.out.symm)
                have TU := Lib.hid (O5.out.past g2 (by omega)).tms
                have BU := Lib.hid (BV.out.grown g2 BV.out.size (by intro k hk; injection hk with hk; omega))
                clear m2 g2 O5
                go_wp2_with fail
                refine (pcheck_any A5 _ c5 a5 _ TU.out).mono ?_
                rw [if_pos HK5.out.1]
                rintro e w9 ⟨rfl, b9⟩
                have TE := Lib.hid (TU.out.below b9)
                have DE := Lib.hid ((DU.out.below b9).mono (n' := k + 1) (by omega))
                have BE := Lib.hid (below3 BU.out b9)
                have HE := Lib.hid (show heapOk a5 ∧ a5.length ≤ k + 1 from ⟨HK5.out.1, by have := HK5.out.2; omega⟩)
                have hlen := DE.out.len
                clear b9
                go_wp2_with fail
                go_roundw
                case rel => exact ⟨k + 1, A5, c5, a5, by go_num, rfl, by omega, HE, TE, DE, BE⟩
                case measure => simp only [intOf]; omega
              · have d1 : decide (0 ≤ oat) = true := decide_eq_true ht0
                have d2 : decide (oat ≤ 1125899906842624) = false := decide_eq_false ht1
                have hz := reset_not (fun q => by have h1 := q.1; have h2 := q.2.1; have h3 := q.2.2; first | exact hh h3 | omega) S5.out
                have t0 : (z5 == 0) = false := by simpa using hz
                clear S5 O5 hz
                go_wp2_with fail
                refine (pcheck_any An _ cn m _ TV.out).mono ?_
                rw [if_pos HK.out.1]
                rintro e w9 ⟨rfl, b9⟩
                have TE := Lib.hid (TV.out.below b9)
                have DE := Lib.hid ((DV.out.below b9).mono (n' := k + 1) (by omega))
                have BE := Lib.hid (below3 BV.out b9)
                have HE := Lib.hid (show heapOk m ∧ m.length ≤ k + 1 from ⟨HK.out.1, by have := HK.out.2; omega⟩)
                have hlen := DE.out.len
                clear b9
                go_wp2_with fail
                go_roundw
                case rel => exact ⟨k + 1, An, cn, m, by go_num, rfl, by omega, HE, TE, DE, BE⟩
                case measure => simp only [intOf]; omega
            · have d1 : decide (0 ≤ oat) = false := decide_eq_false ht0
              have hz := reset_not (fun q => by have h1 := q.1; have h2 := q.2.1; have h3 := q.2.2; first | exact hh h3 | omega) S5.out
              have t0 : (z5 == 0) = false := by simpa using hz
              clear S5 O5 hz
              go_wp2_with fail
              refine (pcheck_any An _ cn m _ TV.out).mono ?_
              rw [if_pos HK.out.1]
              rintro e w9 ⟨rfl, b9⟩
              have TE := Lib.hid (TV.out.below b9)
              have DE := Lib.hid ((DV.out.below b9).mono (n' := k + 1) (by omega))
              have BE := Lib.hid (below3 BV.out b9)
              have HE := Lib.hid (show heapOk m ∧ m.length ≤ k + 1 from ⟨HK.out.1, by have := HK.out.2; omega⟩)
              have hlen := DE.out.len
              clear b9
              go_wp2_with fail
              go_roundw
              case rel => exact ⟨k + 1, An, cn, m, by go_num, rfl, by omega, HE, TE, DE, BE⟩
              case measure => simp only [intOf]; omega
          · have e1 : is = false := by rw [← HIS.out]; exact decide_eq_false hh
            subst e1
            have hz := reset_not (fun q => by have h1 := q.1; have h2 := q.2.1; have h3 := q.2.2; first | exact hh h3 | omega) S5.out
            have t0 : (z5 == 0) = false := by simpa using hz
            clear S5 O5 hz
            go_wp2_with fail
            refine (pcheck_any An _ cn m _ TV.out).mono ?_
            rw [if_pos HK.out.1]
            rintro e w9 ⟨rfl, b9⟩
            have TE := Lib.hid (TV.out.below b9)
            have DE := Lib.hid ((DV.out.below b9).mono (n' := k + 1) (by omega))
            have BE := Lib.hid (below3 BV.out b9)
            have HE := Lib.hid (show heapOk m ∧ m.length ≤ k + 1 from ⟨HK.out.1, by have := HK.out.2; omega⟩)
            have hlen := DE.out.len
            clear b9
            go_wp2_with fail
            go_roundw
            case rel => exact ⟨k + 1, An, cn, m, by go_num, rfl, by omega, HE, TE, DE, BE⟩
            case measure => simp only [intOf]; omega
      as_aux_lemma =>
        obtain ⟨r, hr⟩ : ∃ r, kd.tmod 4 = r := ⟨_, rfl⟩
        rw [hr] at r0 r1 r2 hr3
        have t0 : (r == 0) = false := by simpa using r0
        have t1 : (r == 1) = false := by simpa using r1
        have t2 : (r == 2) = false := by simpa using r2
        obtain ⟨hr4, hr5⟩ := hr3
        clear r0 r1 r2
        go_wp2_with fail
        clear t0 t1 t2 hr hr4 hr5
        refine (pexpire_any An _ cn m oat _ TV.out).mono ?_
        rintro e w5 ⟨A5, c5, xs, B5, d5, a5, z5, rfl, s5, i5, o5, b5⟩
        obtain ⟨hz, hxs, hk5, hp5⟩ := expire_zero HK.out.1 s5
        subst hz
        replace DV := Lib.hid (DV.out.below b5)
        replace TV := Lib.hid (TV.out.below b5)
        replace BV := Lib.hid (below3 BV.out b5)
        replace KV := Lib.hid (KV.out.below b5 KV.out.lt)
        clear q0 q1 q2 lq hget
        have q0 : _ = some (Value.int .i64 kd) := KV.out.cell 0
        have q1 : _ = some (Value.int .i64 oi) := KV.out.cell 1
        have q2 : _ = some (Value.int .i64 oat) := KV.out.cell 2
        have lq := KV.out.lt
        obtain ⟨ds, hds⟩ : ∃ ds, dueT m oat = ds := ⟨_, rfl⟩
        obtain ⟨rs, hrs⟩ : ∃ rs, leftL m oat = rs := ⟨_, rfl⟩
        rw [due_map, hds] at hxs
        rw [hrs] at hp5
        have hst := due_start m oat
        rw [hds, hrs] at hst
        obtain ⟨nd, hnd⟩ : ∃ nd, xs.length = nd := ⟨_, rfl⟩
        have hdl : ds.length = nd := by rw [← hnd, hxs, List.length_map]
        have hdm : nd ≤ m.length := by
          have := hst.length_eq
          unfold leftS at this
          rw [List.drop_zero, List.length_append] at this
          omega
        have HDS := Lib.hid hds
        have HRS := Lib.hid hrs
        have HXS := Lib.hid hxs
        have HDL := Lib.hid hdl
        have HND := Lib.hid hnd
        have HP5 := Lib.hid hp5
        have HK5 := Lib.hid (show heapOk a5 ∧ a5.length ≤ k + 1 from ⟨hk5, by rw [hp5.length_eq, ← hrs]; have := List.length_filter_le (fun t : Tm => !decide (t.1 ≤ oat)) m; unfold leftL; omega⟩)
        have hV5 : V.heap.size ≤ w5.heap.size := b5.size
        have OI := Lib.hid i5
        have OT := Lib.hid o5
        have hnn : a5.length ≤ d5 ∧ d5 ≤ 9223372036854775807 := o5.tms.2.1
        rw [hnd]
        have D0 := Lib.hid (DV.out.perm hst)
        clear s5 i5 o5 b5 hk5 hp5 hds hrs hxs hst hdl hnd
        have k1 := Bk.new w5 24 #[.int .i64 (-1), .int .i64 0]
        have b1 := (Below.refl w5.heap.size w5).alloc (Nat.le_refl _) (.cells #[.int .i64 (-1), .int .i64 0] 24)
        obtain ⟨gl, hgl⟩ : ∃ g, w5.heap.size = g := ⟨_, rfl⟩
        obtain ⟨X, hX⟩ : ∃ X, w5.alloc (.cells #[.int .i64 (-1), .int .i64 0] 24) = X := ⟨_, rfl⟩
        rw [hX] at b1 k1
        rw [hgl] at k1
        have G0 := Lib.hid (show w5.grownBy X (some b) from Below.gb b1)
        have KL := Lib.hid (show Bk X gl 24 #[.int .i64 (lastT ds 0).1, .int .i64 (lastT ds 0).2] from k1)
        replace D0 := Lib.hid (D0.out.below b1)
        have HXX := Lib.hid hX
        have HGL := Lib.hid hgl
        have hgl5 : w5.heap.size ≤ gl := by omega
        clear hX hgl k1 b1
        go_upto_region 17 with fail
        rw [HXX.out]
        try rw [HGL.out]
        clear HXX q0 q1 q2 lq
        go_wp2_with fail
        go_loopw [63] (fun t wq => ∃ j : Nat, t = .int .i64 (j : Int) ∧ j ≤ nd ∧ Hid (w5.grownBy wq (some b)) ∧ Hid (Bk wq gl 24 #[.int .i64 (lastT ds j).1, .int .i64 (lastT ds j).2]) ∧ Hid (DueM wq b k (leftS ds rs j))) (fun t _ => nd - (intOf t).toNat)
        case atStart => exact ⟨0, rfl, Nat.zero_le _, G0, KL, D0⟩
        case round =>
          clear G0 KL D0
          rename World => wq
          obtain ⟨j, rfl, hj, G, KL, DJ⟩ := hrel
          by_cases hjd : j < nd
          · have oi5 := OI.out.past G.out (by omega)
            have hints := oi5.ints
            rw [HND.out] at hints
            obtain ⟨bX, oX, rfl, hbX, e0⟩ := hints.2.2.2 (by omega)
            replace e0 := e0 j hjd
            have hjs : j < ds.length := by rw [HDL.out]; exact hjd
            have hfit : Fit (nth xs j) := by rw [nth_get (by rw [HND.out]; exact hjd)]; exact hints.2.2.1 _ (List.getElem_mem _)
            rw [HXS.out, nth_map hjs] at e0 hfit
            obtain ⟨x1, hx1⟩ : ∃ z, jO ds j = z := ⟨_, rfl⟩
            obtain ⟨x2, hx2⟩ : ∃ z, jA ds j = z := ⟨_, rfl⟩
            have hxx : ith ds j = (x1, x2) := by rw [← hx1, ← hx2]; rfl
            rw [hx2] at e0 hfit
            obtain ⟨hle, hls, hli, hme, hnt, hla, hha⟩ := due_at HK.out.1 HDS.out HRS.out hjs hxx
            obtain ⟨y, hget, hy⟩ := DJ.out.get hfit
            have hyx := hy _ hme rfl
            simp only at hyx
            subst hyx
            rw [decide_eq_true hha] at hget
            obtain ⟨y1, hy1⟩ : ∃ z, (lastT ds j).1 = z := ⟨_, rfl⟩
            obtain ⟨y2, hy2⟩ : ∃ z, (lastT ds j).2 = z := ⟨_, rfl⟩
            have hls2 : lessT (y1, y2) (y, x2) := by rw [← hy1, ← hy2]; exact hls
            rw [hy1, hy2] at KL
            have HLS := Lib.hid hls2
            have HNT := Lib.hid hnt
            have HLI := Lib.hid hli
            have HLA := Lib.hid hla
            have FX := Lib.hid hfit
            have dl : decide (oat < y) = false := decide_eq_false (by omega)
            clear oi5 hints hx1 hx2 hxx hls hli hme hnt hla hha hy hy1 hy2 hls2 hfit
            go_upto_region 21 with fail
            clear e0 hget hbX
            have k1 := Bk.new wq 24 #[.int .i64 y, .int .i64 x2]
            have b1 := (Below.refl wq.heap.size wq).alloc (Nat.le_refl _) (.cells #[.int .i64 y, .int .i64 x2] 24)
            obtain ⟨gt, hgt⟩ : ∃ g, wq.heap.size = g := ⟨_, rfl⟩
            have hglt : gl < gt := by rw [← hgt]; exact KL.out.lt
            obtain ⟨Y, hY⟩ : ∃ Y, wq.alloc (.cells #[.int .i64 y, .int .i64 x2] 24) = Y := ⟨_, rfl⟩
            rw [hY] at b1 k1
            rw [hgt] at k1
            replace G := Lib.hid (show w5.grownBy Y (some b) from gb_trans G.out (Below.gb b1))
            have KY := Lib.hid (KL.out.below b1 KL.out.lt)
            have KT := Lib.hid k1
            replace DJ := Lib.hid (DJ.out.below b1)
            have HY := Lib.hid hY
            have HGT := Lib.hid hgt
            clear hY hgt k1 b1 KL
            go_upto_region 22 with fail
            rw [HY.out]
            try rw [HGT.out]
            clear HY HGT
            have KO := Lib.hid (KV.out.grown G.out (by intro q; injection q with q; omega))
            have q2 : _ = some (Value.int .i64 oat) := KO.out.cell 2
            have lq := KO.out.lt
            have u0 := KY.out.c0
            have u1 := KY.out.c1
            have lu := KY.out.lt
            have v0 := KT.out.c0
            have v1 := KT.out.c1
            have lv := KT.out.lt
            go_wp2_with fail
            refine (less_any y1 y2 y x2 _).mono ?_
            rw [decide_eq_true HLS.out]
            rintro e w7 ⟨rfl, b7⟩
            replace KY := Lib.hid (KY.out.below b7 KY.out.lt)
            replace KT := Lib.hid (KT.out.below b7 KT.out.lt)
            replace G := Lib.hid (show w5.grownBy w7 (some b) from gb_trans G.out (Below.gb b7))
            replace DJ := Lib.hid (DJ.out.below b7)
            clear b7 KO q2 lq u0 u1 lu v0 v1 lv
            have u0 := KY.out.c0
            have u1 := KY.out.c1
            have f0 := KY.out.frozen 0
            have f1 := KY.out.frozen 1
            have lu := KY.out.lt
            have v0 := KT.out.c0
            have v1 := KT.out.c1
            have lv := KT.out.lt
            have kz := bk_set2 KY.out (.int .i64 y) (.int .i64 x2)
            have gz : w7.grownBy ((w7.setCell ⟨gl, 0, none⟩ (.int .i64 y)).setCell ⟨gl, 1, none⟩ (.int .i64 x2)) (some gl) := gb_trans (grown_set _) (grown_set _)
            have dz := DJ.out.grown gz (by intro q; injection q with q; omega)
            obtain ⟨U, hdel, m2, g2⟩ := dz.del HNT.out FX.out 0
            have G2 := Lib.hid (show w5.grownBy U (some b) from gb_trans (gb_past G.out gz (by intro q hq; injection hq with hq; omega)) g2)
            have KU := Lib.hid (kz.grown g2 (by intro q; injection q with q; omega))
            rw [HLI.out] at m2
            have DU := Lib.hid m2
            have KU2 : Hid (Bk U gl 24 #[.int .i64 (lastT ds (j + 1)).1, .int .i64 (lastT ds (j + 1)).2]) := Lib.hid (by rw [HLA.out]; exact KU.out)
            clear kz gz dz m2 g2 KU KY KT G DJ
            go_wp2_with fail
            go_roundw
            case rel => exact ⟨j + 1, by go_num, by omega, G2, KU2, DU⟩
            case measure => simp only [intOf]; omega
          · have hjn : j = nd := by omega
            have DL := Lib.hid (leftS_end (ds := ds) (r := rs) (hjn.trans HDL.out.symm) ▸ DJ.out)
            have KO := Lib.hid (KV.out.grown G.out (by intro q; injection q with q; omega))
            have OT2 := Lib.hid (OT.out.past G.out (by omega)).tms
            have BQ := Lib.hid (BV.out.grown G.out BV.out.size (by intro k hk; injection hk with hk; omega))
            have HJN := Lib.hid hjn
            have HLT := Lib.hid DL.out.lt
            clear hjn KL DJ G OI OT
            obtain ⟨D, hD, hF⟩ := DL.out
            have HF := Lib.hid hF
            have HOW := Lib.hid hD
            clear hF hD
            obtain ⟨w0, hrun0, hrg0, hg0, hs0⟩ := HOW.out.range Try.lawI64 (t := 44) Try.underlying44
            go_wp2_with fail
            clear hrun0
            go_loopw [25] (fun _ ws => ∃ (left : Lit → Bool) (cnt : Nat), ws.ranges Try.prog 2 (plainElem Try.prog 2) b wq.heap.size k D left cnt ∧ (∀ x, left (.int .i64 x) = true → Maps.has D (.int .i64 x) = true) ∧ Hid (Below wq.heap.size wq ws)) (fun _ ws => ws.rangeLeft b wq.heap.size)
            case atStart => exact ⟨_, _, hrg0, fun x h => h, Lib.hid ((Below.refl wq.heap.size wq).grown hg0 (Nat.le_refl _) (fun j hj => by cases hj))⟩
            case round =>
              rename World => wm
              clear hrg0 hg0 hs0
              obtain ⟨left, cnt, hrg, hleft, HB⟩ := hrel
              rcases hrg.next Try.lawI64 0 with ⟨-, hl0, hrunN⟩ | ⟨key, vv, kl, yy, w8, cnt1, hkey, hlx, hvv, hat, hrunN, hrg1, hlt, hg1, hs1, hen⟩
              · have TZ := Lib.hid (OT2.out.below HB.out)
                have DZ := Lib.hid ((DL.out.below HB.out).perm HP5.out.symm)
                have BZ := Lib.hid (below3 BQ.out HB.out)
                clear hrg hleft hl0
                go_wp2_with fail
                refine (pcheck_any B5 _ d5 a5 _ TZ.out).mono ?_
                rw [if_pos HK5.out.1]
                rintro e w9 ⟨rfl, b9⟩
                have TE := Lib.hid (TZ.out.below b9)
                have DE := Lib.hid ((DZ.out.below b9).mono (n' := k + 1) (by omega))
                have BE := Lib.hid (below3 BZ.out b9)
                have HE := Lib.hid (show heapOk a5 ∧ a5.length ≤ k + 1 from ⟨HK5.out.1, by have := HK5.out.2; omega⟩)
                have hlen := DE.out.len
                clear b9
                go_wp2_with fail
                go_roundw
                case rel => exact ⟨k + 1, B5, d5, a5, by go_num, rfl, by omega, HE, TE, DE, BE⟩
                case measure => simp only [intOf]; omega
              · obtain ⟨x, rfl, rfl, -⟩ := Go.Maps.keyOf_int_inv Try.underlying2 hkey
                obtain ⟨cc, rfl, rfl, -⟩ := plainElem_int_inv Try.underlying2 hvv
                clear hkey hvv
                have hh1 := hleft x hlx
                rw [HF.out.has] at hh1
                obtain ⟨t, ht, hte⟩ := List.mem_map.1 (hasId_iff.1 (of_decide_eq_true hh1))
                have hc1 : cc = t.1 := by
                  have h1 := HF.out.at_ t ht
                  rw [hte] at h1
                  have h2 := (hat (.lit (.int .i64 0))).symm.trans h1
                  simpa using h2
                have hlate : ¬ cc ≤ oat := by
                  rw [hc1]
                  rw [← HRS.out] at ht
                  exact left_late ht
                have dl : decide (cc ≤ oat) = false := decide_eq_false hlate
                have HB1 : Hid (Below wq.heap.size wq w8) := Lib.hid (HB.out.grown hg1 HB.out.size (fun j hj => by injection hj with hj; omega))
                have kx := KO.out.below HB1.out KO.out.lt
                have q2 : _ = some (Value.int .i64 oat) := kx.cell 2
                have lq := kx.lt
                have hm1 := hrg.left_eq
                have hm2 := hrg1.left_eq
                have hleft2 : ∀ y, (fun z : Lit => left z && !z.sameKey (.int .i64 x)) (.int .i64 y) = true → Maps.has D (.int .i64 y) = true := fun y hy => by
                  simp only [Bool.and_eq_true] at hy
                  exact hleft y hy.1
                have HM : Hid (w8.rangeLeft b wq.heap.size < wm.rangeLeft b wq.heap.size) := Lib.hid (by rw [hm1, hm2]; exact hlt)
                have HLF := Lib.hid hleft2
                have HRG := Lib.hid hrg1
                clear hh1 ht hte hc1 hlate hat hm1 hm2 hleft2 hrg1 hleft hrg hlx hg1 kx
                go_wp2_with fail
                go_roundw
                case rel => exact ⟨_, _, HRG.out, HLF.out, HB1⟩
                case measure => exact HM.out
    · have hkn' : k = n := by omega
      have HKN := Lib.hid hkn'
      have BF := Lib.hid (below3 BB.out BW.out)
      clear hkn'
      go_wp2_with fail
      go_ret
      exact ⟨rfl, BF.out⟩

end Go.Proofs.Ytjamoafihmcmeaa

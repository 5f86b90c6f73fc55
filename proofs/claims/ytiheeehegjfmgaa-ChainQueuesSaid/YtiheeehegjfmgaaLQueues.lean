/-
  The walk of the law ChainQueues of layer 6: whatever is done, each list has just what a queue of its own would have.
-/
import Derived.Test.YtiheeehegjfmgaaQuS
import Derived.Test.YtiheeehegjfmgaaHr
namespace Go.Proofs.Ytiheeehegjfmgaa
open Go.RowKit

set_option maxRecDepth 100000 in
set_option maxHeartbeats 4000000 in
theorem lqueues_out (A : Option Addr) (n c : Nat) (nodes lists : Int) (w : World) (hn : n ≤ 140737488351232) (h : nodes < 1 ∨ 12 < nodes ∨ lists < 1 ∨ 5 < lists ∨ 80 < n) :
    Calls Try.prog 5 #[.int .i64 nodes, .int .i64 lists, .slice A n c] w (TrueAns w) := by
  have h' : nodes < 1 ∨ (¬ nodes < 1 ∧ 12 < nodes) ∨ (¬ nodes < 1 ∧ ¬ 12 < nodes ∧ lists < 1) ∨ (¬ nodes < 1 ∧ ¬ 12 < nodes ∧ ¬ lists < 1 ∧ 5 < lists) ∨ (¬ nodes < 1 ∧ ¬ 12 < nodes ∧ ¬ lists < 1 ∧ ¬ 5 < lists ∧ 80 < n) := by omega
  clear h
  rcases h' with h | ⟨h0, h⟩ | ⟨h0, h1, h⟩ | ⟨h0, h1, h2, h⟩ | ⟨h0, h1, h2, h3, h⟩
  all_goals
    go_enter Try.func5, Try.ntmps5
    go_wp2_with fail
    refine (live_any _).mono ?_
    rintro e w1 ⟨rfl, hb⟩
    have BB := Lib.hid hb
    clear hb
    go_wp2
    go_ret
    exact ⟨rfl, BB.out⟩

theorem holds_N (A B D H : Option Addr) (n a m b k d C base : Nat) (next head tail : List Int) (hs : List (Option Addr × Nat)) (qs : List (List Int)) (mm : Nat) (hm : qs.length = mm) (w : World) (hp : Chn w A n B m D k next head tail) (r : Rep next head tail qs) (hq : OwnQs 3 22 w base H C hs qs) :
    Calls Try.prog 31 #[.agg #[.slice A n a, .slice B m b, .slice D k d], .slice H mm C] w (RetB (.bool true) w) := by
  subst hm
  exact holds_yes A B D H n a m b k d C base next head tail hs qs w hp r hq

/-- What holds ahead of each round. -/
def QuR (nn mm : Nat) (V wr : World) : Prop := ∃ (A B D : Option Addr) (a b d : Nat) (N H T : List Int) (hs : List (Option Addr × Nat)) (qs : List (List Int)), N.length = nn ∧ qs.length = mm ∧ Rep N H T qs ∧
  QuS V wr V.heap.size (V.heap.size + 1) mm hs qs A N.length a B H.length b D T.length d N H T

set_option maxRecDepth 100000 in
set_option maxHeartbeats 16000000 in
theorem lqueues_main (A : Option Addr) (n c nn mm : Nat) (l : List OpT) (w : World) (ho : Opq w A n l) (h1 : 1 ≤ nn) (h2 : nn ≤ 12) (h3 : 1 ≤ mm) (h4 : mm ≤ 5) (h5 : n ≤ 80) :
    Calls Try.prog 5 #[.int .i64 (nn : Int), .int .i64 (mm : Int), .slice A n c] w (TrueAns w) := by
  obtain ⟨N, H, T, ln, r, cn⟩ := new_moves nn mm (by omega) h3 (by omega)
  have CN := Lib.hid cn
  have R0 := Lib.hid r
  have LN := Lib.hid ln
  have HO := Lib.hid ho
  have mk := mkRows mm (by omega)
  obtain ⟨z, hz⟩ : ∃ z, madeCells #[Value.slice none 0 0] mm = z := ⟨_, rfl⟩
  rw [hz] at mk
  have HZ := Lib.hid hz
  clear cn r ln ho hz
  go_enter Try.func5, Try.ntmps5
  go_wp2_with fail
  refine (live_any _).mono ?_
  rintro e w1 ⟨rfl, hb1⟩
  have B1 := Lib.hid hb1
  clear hb1
  go_wp2_with fail
  refine (CN.out _).mono ?_
  rintro e w2 ⟨A2, a2, B2, b2, D2, d2, rfl, ho2, hb2⟩
  have BV := Lib.hid (below3 B1.out hb2)
  have HO2 := Lib.hid (HO.out.below BV.out)
  have hb3 := (Below.refl w2.heap.size w2).alloc (Nat.le_refl _) (.cells #[.slice A2 N.length a2, .slice B2 H.length b2, .slice D2 T.length d2] 24)
  have hb4 := hb3.alloc (by simp) (.cells z 22)
  have q3 := rows_made (w2.alloc (.cells #[.slice A2 N.length a2, .slice B2 H.length b2, .slice D2 T.length d2] 24)) w2.heap.size mm (by simp) (by omega) z HZ.out
  rw [size_alloc] at q3
  have S0 : Hid (QuR nn mm w2 ((w2.alloc (.cells #[.slice A2 N.length a2, .slice B2 H.length b2, .slice D2 T.length d2] 24)).alloc (.cells z 22))) := Lib.hid ⟨A2, B2, D2, a2, b2, d2, N, H, T, _, _, LN.out, by simp, R0.out, (Bk.new w2 24 #[.slice A2 N.length a2, .slice B2 H.length b2, .slice D2 T.length d2]).alloc _, ⟨ho2.c.chn.below hb4, ho2.c.chn.off (Nat.le_refl _), ho2.c.chn.off (by omega), fun j g hj e => by rw [qa_get hj] at e; simp [qblk, Value.ownBlock] at e⟩, q3, hb4, Nat.le_refl _⟩
  clear hb2 hb3 hb4 q3 ho2 CN B1
  have t1 : decide ((nn : Int) < 1) = false := by simp; omega
  have t2 : decide (12 < (nn : Int)) = false := by simp; omega
  have t3 : decide ((mm : Int) < 1) = false := by simp; omega
  have t4 : decide (5 < (mm : Int)) = false := by simp; omega
  have t5 : decide (80 < (n : Int)) = false := by simp; omega
  go_wp2
  clear mk t1 t2 t3 t4 t5
  go_loopw [58] (fun t wr => ∃ j : Nat, j ≤ n ∧ t = .int .i64 j ∧ Hid (QuR nn mm w2 wr)) (fun t _ => n - (intOf t).toNat)
  case atStart => exact ⟨0, Nat.zero_le _, rfl, S0⟩
  case round =>
    rename World => wr
    obtain ⟨j, hj, rfl, HR⟩ := hrel
    by_cases hlt : j < n
    · obtain ⟨A3, B3, D3, a3, b3, d3, N3, H3, T3, hs, qs, ln3, lq3, r3, hS⟩ := HR.out
      obtain ⟨b, o, rfl, hb, hc⟩ := (HO2.out.below hS.below).2 (by omega)
      obtain ⟨fk, fl, ft, fx, ck, cl, ct, cx⟩ := hc j hlt
      obtain ⟨⟨ok, ol, ot, ox⟩, h4o⟩ : ∃ z, oth l j = z := ⟨_, rfl⟩
      rw [h4o] at fk fl ft fx ck cl ct cx
      simp only [] at fk fl ft fx ck cl ct cx
      have hzm : (mm : Int) ≠ 0 := by omega
      have hzn : (nn : Int) ≠ 0 := by omega
      obtain ⟨rl, el, gl1, gl2, i, hi, ei⟩ := mod_mod ol (m := mm) (by omega)
      obtain ⟨rt, et, gt1, gt2, t, ht, ett⟩ := mod_mod ot (m := mm) (by omega)
      obtain ⟨rx, ex, gx1, gx2, x, hx, exx⟩ := mod_mod ox (m := nn) (by omega)
      obtain ⟨kd, ekd⟩ : ∃ z, ok.tmod 4 = z := ⟨_, rfl⟩
      unfold Fit at fk fl ft fx
      have LN3 := Lib.hid ln3
      have LQ3 := Lib.hid lq3
      have R3 := Lib.hid r3
      have ha := (Below.refl wr.heap.size wr).alloc (Nat.le_refl _) (.cells #[.int .i64 ok, .int .i64 ol, .int .i64 ot, .int .i64 ox] 49)
      have S1 := Lib.hid (hS.call ha)
      have KO := Bk.new wr 49 #[.int .i64 ok, .int .i64 ol, .int .i64 ot, .int .i64 ox]
      have o0 : _ = some (Value.int .i64 ok) := KO.cell 0
      have o1 : _ = some (Value.int .i64 ol) := KO.cell 1
      have o2 : _ = some (Value.int .i64 ot) := KO.cell 2
      have o3 : _ = some (Value.int .i64 ox) := KO.cell 3
      have KOH := Lib.hid KO
      have hwr := Lib.hid hS.own.hlt
      have a_c := S1.out.box.e0
      have b_c := S1.out.box.e1
      have c_c := S1.out.box.e2
      have HIN : Hid (inBd (x : Int) (N3.length : Int) = true) := Lib.hid (by rw [ln3]; simp [inBd]; omega)
      clear hc hb h4o ln3 lq3 r3 hS ha KO HR
      obtain ⟨y, hy⟩ : ∃ y, whereQ qs (x : Int) = y := ⟨_, rfl⟩
      have HY := Lib.hid hy
      clear hy
      go_wp2_with fail
      refine (whereF_ok A3 B3 D3 N3.length a3 H3.length b3 T3.length d3 N3 H3 T3 x qs R3.out HIN.out _ S1.out.ch.chn).mono ?_
      rw [HY.out]
      rintro e w4 ⟨rfl, hb4⟩
      have S4 := Lib.hid (S1.out.call hb4)
      have hb5 := (Below.refl w4.heap.size w4).alloc (Nat.le_refl _) (.cells #[.slice A3 N3.length a3, .slice B3 H3.length b3, .slice D3 T3.length d3] 24)
      have S5 := Lib.hid (S4.out.call hb5)
      have KN := Lib.hid (Bk.new w4 24 #[.slice A3 N3.length a3, .slice B3 H3.length b3, .slice D3 T3.length d3])
      have p0 : _ = some (Value.int .i64 ok) := ((KOH.out.below hb4 KOH.out.lt).alloc (.cells #[.slice A3 N3.length a3, .slice B3 H3.length b3, .slice D3 T3.length d3] 24)).cell 0
      have HB5 := Lib.hid hb5
      clear hb4 hb5 a_c b_c c_c o0 o1 o2 o3 ck cl ct cx S1 KOH el et ex ei ett exx
      have a_4 := S4.out.box.e0
      have b_4 := S4.out.box.e1
      have c_4 := S4.out.box.e2
      have a_5 := S5.out.box.e0
      have b_5 := S5.out.box.e1
      have c_5 := S5.out.box.e2
      have hiq : i < qs.length := by rw [LQ3.out]; exact hi
      have htq : t < qs.length := by rw [LQ3.out]; exact ht
      have hxN : x < N3.length := by rw [LN3.out]; exact hx
      by_cases e0 : kd = 0
      · have k0 : (kd == 0) = true := by simp [e0]
        clear e0
        rcases where_cases R3.out (x : Int) with ⟨hw, hno⟩ | ⟨i0, q0, hi0, hq0, hxq, hw⟩
        · as_aux_lemma =>
            have hyy : y = -1 := by rw [← HY.out, hw]
            subst hyy
            obtain ⟨N6, H6, T6, l6, r6, c6⟩ := push_moves R3.out (i := i) (x := x) hiq hxN hno
            have C6 := Lib.hid c6
            have LN6 := Lib.hid (l6.trans LN3.out)
            obtain ⟨Ai, hAi⟩ : ∃ z, (qa hs i).1 = z := ⟨_, rfl⟩
            obtain ⟨ci, hci⟩ : ∃ z, (qa hs i).2 = z := ⟨_, rfl⟩
            obtain ⟨zs, hzi⟩ : ∃ z, qth qs i = z := ⟨_, rfl⟩
            have HAi := Lib.hid hAi
            have HCi := Lib.hid hci
            have HZi := Lib.hid hzi
            rw [hzi] at r6
            have R6 := Lib.hid r6
            clear hw hno l6 r6 c6 hzi hAi hci
            go_wp2_with fail
            refine (C6.out A3 B3 D3 N3.length a3 H3.length b3 T3.length d3 _ S5.out.ch.chn).mono ?_
            rintro e w6 ⟨A6, a6, B6, b6, D6, d6, rfl, ho6, hb6⟩
            have hb57 := below3 HB5.out hb6
            have kn6 := KN.out.below hb6 KN.out.lt
            have S7 := Lib.hid (S4.out.call (below_store hb57 (Nat.le_refl _) (.slice A6 N6.length a6) (.slice B6 H6.length b6) (.slice D6 T6.length d6)))
            have KN7 := Lib.hid (bk_store kn6 (.slice A6 N6.length a6) (.slice B6 H6.length b6) (.slice D6 T6.length d6))
            have hbase : w4.heap.size < (w4.alloc (.cells #[.slice A3 N3.length a3, .slice B3 H3.length b3, .slice D3 T3.length d3] 24)).heap.size := by rw [size_alloc]; omega
            have CA7 : Hid (ChA (((w6.setCell ⟨w4.heap.size, 0, none⟩ (.slice A6 N6.length a6)).setCell ⟨w4.heap.size, 1, none⟩ (.slice B6 H6.length b6)).setCell ⟨w4.heap.size, 2, none⟩ (.slice D6 T6.length d6)) w2.heap.size (w2.heap.size + 1) hs A6 N6.length B6 H6.length D6 T6.length N6 H6 T6) := Lib.hid ((ChA.fresh ho6 (Nat.lt_trans S4.out.box.lt hbase) (Nat.lt_trans S4.out.own.hlt.2 hbase) (fun j k hj e => Nat.lt_trans (S4.out.own.qlt hj e) hbase)).store3 (ho6.off hbase) (.slice A6 N6.length a6) (.slice B6 H6.length b6) (.slice D6 T6.length d6))
            have u0 := kn6.e0
            have u1 := kn6.e1
            have u2 := kn6.e2
            have g0 := kn6.frozen 0
            have g1 := kn6.frozen 1
            have g2 := kn6.frozen 2
            have hh := (S7.out.own.at_ hiq).1
            rw [HAi.out, HCi.out, HZi.out] at hh
            have ha7 := (Below.refl (((w6.setCell ⟨w4.heap.size, 0, none⟩ (.slice A6 N6.length a6)).setCell ⟨w4.heap.size, 1, none⟩ (.slice B6 H6.length b6)).setCell ⟨w4.heap.size, 2, none⟩ (.slice D6 T6.length d6)).heap.size (((w6.setCell ⟨w4.heap.size, 0, none⟩ (.slice A6 N6.length a6)).setCell ⟨w4.heap.size, 1, none⟩ (.slice B6 H6.length b6)).setCell ⟨w4.heap.size, 2, none⟩ (.slice D6 T6.length d6))).alloc (Nat.le_refl _) (.cells #[.int .i64 (x : Int)] 3)
            have S8 := Lib.hid (S7.out.call ha7)
            have CA8 := Lib.hid (CA7.out.below ha7)
            have KN8 := Lib.hid (KN7.out.alloc (.cells #[.int .i64 (x : Int)] 3))
            have o8 := S8.out.own.own i hiq
            rw [HAi.out, HCi.out, HZi.out] at o8
            have O8 := Lib.hid o8
            have HL := Lib.hid (HZi.out ▸ R3.out.short hiq)
            have HFX : Hid (Fit (x : Int)) := Lib.hid (by unfold Fit; omega)
            have i8 := ints1 (((w6.setCell ⟨w4.heap.size, 0, none⟩ (.slice A6 N6.length a6)).setCell ⟨w4.heap.size, 1, none⟩ (.slice B6 H6.length b6)).setCell ⟨w4.heap.size, 2, none⟩ (.slice D6 T6.length d6)) 3 HFX.out
            simp only [size_set3] at i8
            have I8 := Lib.hid i8
            clear i8 hb6 hb57 kn6 hbase ho6 ha7 o8 S7 CA7 KN7 a_4 b_4 c_4 a_5 b_5 c_5 p0 S5 KN HB5
            go_wp2_with (at_builtin; refine wpList_append_que _ rfl _ _ 22 rfl 3 Try.underlying22 Try.intInfo w2.heap.size Ai ci zs zs.length rfl rfl O8.out (some ⟨w6.heap.size, 0, none⟩) 1 1 [(x : Int)] rfl I8.out (by have := HL.out; omega) S8.out.below.size ?_)
            intro A9 c9 w9 hq9 hg9 hf9
            obtain ⟨⟨v9, cv9⟩, fr9, S10, K10, C10⟩ := S8.out.put hiq hg9 (by rw [← HAi.out]; exact blk_any _ _ _) (ln := zs.length + 1) (by simp) hq9 (fun k hk => by have := hf9 k hk; rw [← HAi.out] at this; rcases this with h | h; exact .inl h; right; rw [size_alloc, size_set3]; exact h)
            have k10 := (K10 KN8.out (by decide) (by decide)).2
            have k9 := (K10 KN8.out (by decide) (by decide)).1
            have S11 := Lib.hid (S10.take (a2 := a6) (b2 := b6) (d2 := d6) (C10 CA8.out))
            have n0 := k10.e0
            have n1 := k10.e1
            have n2 := k10.e2
            have s0 := S10.box.e0
            have s1 := S10.box.e1
            have s2 := S10.box.e2
            have f0 := S10.box.frozen 0
            have f1 := S10.box.frozen 1
            have f2 := S10.box.frozen 2
            clear hq9 hg9 hf9 S10 K10 C10 k10 k9 hh u0 u1 u2 g0 g1 g2 S8 CA8 KN8 O8
            have x0 := S11.out.box.e0
            have x1 := S11.out.box.e1
            have x2 := S11.out.box.e2
            go_wp2_with fail
            refine (holds_N A6 B6 D6 _ N6.length a6 H6.length b6 T6.length d6 mm w2.heap.size N6 H6 T6 _ _ mm (by simp [LQ3.out]) _ S11.out.ch.chn R6.out S11.out.own).mono ?_
            rintro e w12 ⟨rfl, hb12⟩
            have S12 := Lib.hid (S11.out.call hb12)
            clear hb12 x0 x1 x2
            go_wp2
            go_roundw
            case rel => exact ⟨j + 1, by omega, by go_num, Lib.hid ⟨A6, B6, D6, a6, b6, d6, N6, H6, T6, _, _, LN6.out, by simp [LQ3.out], R6.out, S12.out⟩⟩
            case measure => simp [intOf]; omega
        · as_aux_lemma =>
            have hyy : y = (i0 : Int) := by rw [← HY.out, hw]
            subst hyy
            have HW := Lib.hid hw
            have ti : ((i0 : Int) == -1) = false := by simp
            have HII : Hid (inBd (i : Int) (H3.length : Int) = true) := Lib.hid (by rw [R3.out.lh, LQ3.out]; simp [inBd]; omega)
            clear hw hxq hq0
            go_wp2_with fail
            refine (push_there A3 B3 D3 N3.length a3 H3.length b3 T3.length d3 N3 H3 T3 i x qs R3.out HIN.out HII.out (by rw [HW.out]; omega) _ S5.out.ch.chn).mono ?_
            rintro e w6 ⟨A6, a6, B6, b6, D6, d6, rfl, ho6, hb6⟩
            have hb57 := below3 HB5.out hb6
            have kn6 := KN.out.below hb6 KN.out.lt
            have S7 := Lib.hid (S4.out.call (below_store hb57 (Nat.le_refl _) (.slice A6 0 a6) (.slice B6 0 b6) (.slice D6 0 d6)))
            have u0 := kn6.e0
            have u1 := kn6.e1
            have u2 := kn6.e2
            have g0 := kn6.frozen 0
            have g1 := kn6.frozen 1
            have g2 := kn6.frozen 2
            have hh := (S7.out.own.at_ hiq).1
            clear hb6 hb57 kn6 ho6 a_4 b_4 c_4 a_5 b_5 c_5 p0 S5 KN HB5 S4
            have x0 := S7.out.box.e0
            have x1 := S7.out.box.e1
            have x2 := S7.out.box.e2
            go_wp2_with fail
            refine (holds_N A3 B3 D3 _ N3.length a3 H3.length b3 T3.length d3 mm w2.heap.size N3 H3 T3 hs qs mm (LQ3.out) _ S7.out.ch.chn R3.out S7.out.own).mono ?_
            rintro e w12 ⟨rfl, hb12⟩
            have S12 := Lib.hid (S7.out.call hb12)
            clear hb12 x0 x1 x2
            go_wp2
            go_roundw
            case rel => exact ⟨j + 1, by omega, by go_num, Lib.hid ⟨A3, B3, D3, a3, b3, d3, N3, H3, T3, _, _, LN3.out, LQ3.out, R3.out, S12.out⟩⟩
            case measure => simp [intOf]; omega
      · by_cases e1 : kd = 1
        · have k0 : (kd == 0) = false := by simp [e0]
          have k1 : (kd == 1) = true := by simp [e1]
          clear e0 e1
          rcases Nat.eq_zero_or_pos (qth qs i).length with hz | hz
          · as_aux_lemma =>
              have hz0 : qth qs i = [] := List.eq_nil_of_length_eq_zero (by omega)
              have HZ0 := Lib.hid hz0
              clear hz0 hz
              go_wp2_with fail
              refine (pop_none A3 B3 D3 N3.length a3 H3.length b3 T3.length d3 N3 H3 T3 i qs R3.out hiq (by rw [HZ0.out]; rfl) _ S5.out.ch.chn).mono ?_
              rintro e w6 ⟨A6, a6, B6, b6, D6, d6, rfl, ho6, hb6⟩
              have hb57 := below3 HB5.out hb6
              have kn6 := KN.out.below hb6 KN.out.lt
              have S7 := Lib.hid (S4.out.call (below_store hb57 (Nat.le_refl _) (.slice A6 0 a6) (.slice B6 0 b6) (.slice D6 0 d6)))
              have u0 := kn6.e0
              have u1 := kn6.e1
              have u2 := kn6.e2
              have g0 := kn6.frozen 0
              have g1 := kn6.frozen 1
              have g2 := kn6.frozen 2
              have hh := (S7.out.own.at_ hiq).1
              clear hb6 hb57 kn6 ho6 a_4 b_4 c_4 a_5 b_5 c_5 p0 S5 KN HB5 S4
              have x0 := S7.out.box.e0
              have x1 := S7.out.box.e1
              have x2 := S7.out.box.e2
              go_wp2_with fail
              refine (holds_N A3 B3 D3 _ N3.length a3 H3.length b3 T3.length d3 mm w2.heap.size N3 H3 T3 hs qs mm (LQ3.out) _ S7.out.ch.chn R3.out S7.out.own).mono ?_
              rintro e w12 ⟨rfl, hb12⟩
              have S12 := Lib.hid (S7.out.call hb12)
              clear hb12 x0 x1 x2
              go_wp2
              go_roundw
              case rel => exact ⟨j + 1, by omega, by go_num, Lib.hid ⟨A3, B3, D3, a3, b3, d3, N3, H3, T3, _, _, LN3.out, LQ3.out, R3.out, S12.out⟩⟩
              case measure => simp [intOf]; omega
          · skip
            obtain ⟨v, hv⟩ : ∃ v : Nat, nth (qth qs i) 0 = v := ⟨(nth (qth qs i) 0).toNat, by have := R3.out.rng i 0 hiq hz; omega⟩
            obtain ⟨N6, H6, T6, l6, r6, c6⟩ := pop_moves R3.out (i := i) (x := v) hiq hz hv
            have C6 := Lib.hid c6
            have LN6 := Lib.hid (l6.trans LN3.out)
            obtain ⟨Ai, hAi⟩ : ∃ z, (qa hs i).1 = z := ⟨_, rfl⟩
            obtain ⟨ci, hci⟩ : ∃ z, (qa hs i).2 = z := ⟨_, rfl⟩
            obtain ⟨zs, hzi⟩ : ∃ z, qth qs i = z := ⟨_, rfl⟩
            have HAi := Lib.hid hAi
            have HCi := Lib.hid hci
            have HZi := Lib.hid hzi
            rw [hzi] at r6 hv hz
            have R6 := Lib.hid r6
            have HV := Lib.hid hv
            have HZ0 := Lib.hid hz
            clear l6 r6 c6 hzi hAi hci hv hz
            go_wp2_with fail
            refine (C6.out A3 B3 D3 N3.length a3 H3.length b3 T3.length d3 _ S5.out.ch.chn).mono ?_
            rintro e w6 ⟨A6, a6, B6, b6, D6, d6, rfl, ho6, hb6⟩
            have hb57 := below3 HB5.out hb6
            have kn6 := KN.out.below hb6 KN.out.lt
            have S7 := Lib.hid (S4.out.call (below_store hb57 (Nat.le_refl _) (.slice A6 N6.length a6) (.slice B6 H6.length b6) (.slice D6 T6.length d6)))
            have KN7 := Lib.hid (bk_store kn6 (.slice A6 N6.length a6) (.slice B6 H6.length b6) (.slice D6 T6.length d6))
            have hbase : w4.heap.size < (w4.alloc (.cells #[.slice A3 N3.length a3, .slice B3 H3.length b3, .slice D3 T3.length d3] 24)).heap.size := by rw [size_alloc]; omega
            have CA7 : Hid (ChA (((w6.setCell ⟨w4.heap.size, 0, none⟩ (.slice A6 N6.length a6)).setCell ⟨w4.heap.size, 1, none⟩ (.slice B6 H6.length b6)).setCell ⟨w4.heap.size, 2, none⟩ (.slice D6 T6.length d6)) w2.heap.size (w2.heap.size + 1) hs A6 N6.length B6 H6.length D6 T6.length N6 H6 T6) := Lib.hid ((ChA.fresh ho6 (Nat.lt_trans S4.out.box.lt hbase) (Nat.lt_trans S4.out.own.hlt.2 hbase) (fun j k hj e => Nat.lt_trans (S4.out.own.qlt hj e) hbase)).store3 (ho6.off hbase) (.slice A6 N6.length a6) (.slice B6 H6.length b6) (.slice D6 T6.length d6))
            have u0 := kn6.e0
            have u1 := kn6.e1
            have u2 := kn6.e2
            have g0 := kn6.frozen 0
            have g1 := kn6.frozen 1
            have g2 := kn6.frozen 2
            have hh := (S7.out.own.at_ hiq).1
            have hfr := (S7.out.own.at_ hiq).2
            rw [HAi.out, HCi.out, HZi.out] at hh
            have o7 := S7.out.own.own i hiq
            rw [HAi.out, HCi.out, HZi.out] at o7
            obtain ⟨gl, ol, hA, -, -, -, -⟩ := o7.form HZ0.out
            have hap : ∀ o2 k, (Value.slice (some ⟨gl, o2, none⟩) 0 0).ownBlock = some k → qblk (qa hs i) = some k := fun o2 k hk => by rw [qblk, HAi.out, hA]; simpa [Value.ownBlock] using hk
            rw [hA] at hh o7
            obtain ⟨cl, -⟩ := o7.at_ 0 HZ0.out
            rw [Nat.add_zero, HV.out] at cl
            have hlc : zs.length ≤ ci := by rcases o7.2.2 with ⟨e, _⟩ | ⟨_, _, _, _, _, _, h4, _⟩; cases e; exact h4
            have hl8 : zs.length ≤ 1024 := HZi.out ▸ R3.out.short hiq
            have hl0 : 0 < zs.length := HZ0.out
            have hzp : decide (0 < (zs.length : Int)) = true := by simp; omega
            have hwl : IntKind.i64.wrap (zs.length : Int) = zs.length := by rw [IntKind.wrap_i64]; omega
            have hld : (zs.drop 1).length = zs.length - 1 := by simp
            clear hb6 hb57 kn6 hbase ho6 hA a_4 b_4 c_4 a_5 b_5 c_5 p0 S5 KN HB5 S4
            by_cases hc1 : ci = 1
            · have hcz : ci - 1 = 0 := by omega
              have Q := S7.out.put (row := qblk (qa hs i)) hiq (World.grownBy.refl _ _) rfl (ln := zs.length - 1) hld (o7.tail HZ0.out (o' := ol) (.inr ⟨hc1, rfl⟩)) (fun k hk => .inl (hap (ol) k hk))
              rw [hcz] at Q
              obtain ⟨-, -, S10, K10, C10⟩ := Q
              have k10 := (K10 KN7.out (by decide) (by decide)).2
              have k9 := (K10 KN7.out (by decide) (by decide)).1
              have S11 := Lib.hid (S10.take (a2 := a6) (b2 := b6) (d2 := d6) (C10 CA7.out))
              have n0 := k10.e0
              have n1 := k10.e1
              have n2 := k10.e2
              have s0 := S10.box.e0
              have s1 := S10.box.e1
              have s2 := S10.box.e2
              have f0 := S10.box.frozen 0
              have f1 := S10.box.frozen 1
              have f2 := S10.box.frozen 2
              clear S10 K10 C10 k10 k9 o7 hap S7 CA7 KN7
              have x0 := S11.out.box.e0
              have x1 := S11.out.box.e1
              have x2 := S11.out.box.e2
              go_wp2_with fail
              refine (holds_N A6 B6 D6 _ N6.length a6 H6.length b6 T6.length d6 mm w2.heap.size N6 H6 T6 _ _ mm (by simp [LQ3.out]) _ S11.out.ch.chn R6.out S11.out.own).mono ?_
              rintro e w12 ⟨rfl, hb12⟩
              have S12 := Lib.hid (S11.out.call hb12)
              clear hb12 x0 x1 x2
              go_wp2
              go_roundw
              case rel => exact ⟨j + 1, by omega, by go_num, Lib.hid ⟨A6, B6, D6, a6, b6, d6, N6, H6, T6, _, _, LN6.out, by simp [LQ3.out], R6.out, S12.out⟩⟩
              case measure => simp [intOf]; omega
            · have hcz : ¬ ci - 1 = 0 := by omega
              have Q := S7.out.put (row := qblk (qa hs i)) hiq (World.grownBy.refl _ _) rfl (ln := zs.length - 1) hld (o7.tail HZ0.out (o' := ol + 1) (.inl rfl)) (fun k hk => .inl (hap (ol + 1) k hk))
              obtain ⟨-, -, S10, K10, C10⟩ := Q
              have k10 := (K10 KN7.out (by decide) (by decide)).2
              have k9 := (K10 KN7.out (by decide) (by decide)).1
              have S11 := Lib.hid (S10.take (a2 := a6) (b2 := b6) (d2 := d6) (C10 CA7.out))
              have n0 := k10.e0
              have n1 := k10.e1
              have n2 := k10.e2
              have s0 := S10.box.e0
              have s1 := S10.box.e1
              have s2 := S10.box.e2
              have f0 := S10.box.frozen 0
              have f1 := S10.box.frozen 1
              have f2 := S10.box.frozen 2
              clear S10 K10 C10 k10 k9 o7 hap S7 CA7 KN7
              have x0 := S11.out.box.e0
              have x1 := S11.out.box.e1
              have x2 := S11.out.box.e2
              go_wp2_with fail
              refine (holds_N A6 B6 D6 _ N6.length a6 H6.length b6 T6.length d6 mm w2.heap.size N6 H6 T6 _ _ mm (by simp [LQ3.out]) _ S11.out.ch.chn R6.out S11.out.own).mono ?_
              rintro e w12 ⟨rfl, hb12⟩
              have S12 := Lib.hid (S11.out.call hb12)
              clear hb12 x0 x1 x2
              go_wp2
              go_roundw
              case rel => exact ⟨j + 1, by omega, by go_num, Lib.hid ⟨A6, B6, D6, a6, b6, d6, N6, H6, T6, _, _, LN6.out, by simp [LQ3.out], R6.out, S12.out⟩⟩
              case measure => simp [intOf]; omega
        · by_cases e2 : kd = 2
          · have k0 : (kd == 0) = false := by simp [e0]
            have k1 : (kd == 1) = false := by simp [e1]
            have k2 : (kd == 2) = true := by simp [e2]
            clear e0 e1 e2
            rcases where_cases R3.out (x : Int) with ⟨hw, hno⟩ | ⟨i0, q0, hi0, hq0, hxq, hw⟩
            · as_aux_lemma =>
                have hyy : y = -1 := by rw [← HY.out, hw]
                subst hyy
                have HW := Lib.hid hw
                clear hw hno
                go_wp2_with fail
                refine (cut_none A3 B3 D3 N3.length a3 H3.length b3 T3.length d3 N3 H3 T3 x qs R3.out HIN.out HW.out _ S5.out.ch.chn).mono ?_
                rintro e w6 ⟨A6, a6, B6, b6, D6, d6, rfl, ho6, hb6⟩
                have hb57 := below3 HB5.out hb6
                have kn6 := KN.out.below hb6 KN.out.lt
                have S7 := Lib.hid (S4.out.call (below_store hb57 (Nat.le_refl _) (.slice A6 0 a6) (.slice B6 0 b6) (.slice D6 0 d6)))
                have u0 := kn6.e0
                have u1 := kn6.e1
                have u2 := kn6.e2
                have g0 := kn6.frozen 0
                have g1 := kn6.frozen 1
                have g2 := kn6.frozen 2
                have hh := (S7.out.own.at_ hiq).1
                clear hb6 hb57 kn6 ho6 a_4 b_4 c_4 a_5 b_5 c_5 p0 S5 KN HB5 S4
                have x0 := S7.out.box.e0
                have x1 := S7.out.box.e1
                have x2 := S7.out.box.e2
                go_wp2_with fail
                refine (holds_N A3 B3 D3 _ N3.length a3 H3.length b3 T3.length d3 mm w2.heap.size N3 H3 T3 hs qs mm (LQ3.out) _ S7.out.ch.chn R3.out S7.out.own).mono ?_
                rintro e w12 ⟨rfl, hb12⟩
                have S12 := Lib.hid (S7.out.call hb12)
                clear hb12 x0 x1 x2
                go_wp2
                go_roundw
                case rel => exact ⟨j + 1, by omega, by go_num, Lib.hid ⟨A3, B3, D3, a3, b3, d3, N3, H3, T3, _, _, LN3.out, LQ3.out, R3.out, S12.out⟩⟩
                case measure => simp [intOf]; omega
            · as_aux_lemma =>
                have hyy : y = (i0 : Int) := by rw [← HY.out, hw]
                subst hyy
                have ti : ((i0 : Int) != -1) = true := by simp
                have hi0m : i0 < mm := by rw [← LQ3.out]; exact hi0
                obtain ⟨N6, H6, T6, l6, r6, c6⟩ := cut_moves R3.out hi0 hq0 hxq
                have he := erase_filter hq0 (fun q hq e => (R3.out.one i0 i0 q q0 hi0 hi0 hq hq0 e).2)
                rw [hxq] at he
                rw [← he] at r6
                have C6 := Lib.hid c6
                have LN6 := Lib.hid (l6.trans LN3.out)
                obtain ⟨Ai, hAi0⟩ : ∃ z, (qa hs i0).1 = z := ⟨_, rfl⟩
                obtain ⟨ci, hci0⟩ : ∃ z, (qa hs i0).2 = z := ⟨_, rfl⟩
                obtain ⟨zs, hzi0⟩ : ∃ z, qth qs i0 = z := ⟨_, rfl⟩
                have HAi0 := Lib.hid hAi0
                have HCi0 := Lib.hid hci0
                have HZi0 := Lib.hid hzi0
                rw [hzi0] at r6
                have R6 := Lib.hid r6
                clear l6 r6 c6 hzi0 hAi0 hci0 he hxq hw hq0
                go_wp2_with fail
                refine (C6.out A3 B3 D3 N3.length a3 H3.length b3 T3.length d3 _ S5.out.ch.chn).mono ?_
                rintro e w6 ⟨A6, a6, B6, b6, D6, d6, rfl, ho6, hb6⟩
                have hb57 := below3 HB5.out hb6
                have kn6 := KN.out.below hb6 KN.out.lt
                have S7 := Lib.hid (S4.out.call (below_store hb57 (Nat.le_refl _) (.slice A6 N6.length a6) (.slice B6 H6.length b6) (.slice D6 T6.length d6)))
                have KN7 := Lib.hid (bk_store kn6 (.slice A6 N6.length a6) (.slice B6 H6.length b6) (.slice D6 T6.length d6))
                have hbase : w4.heap.size < (w4.alloc (.cells #[.slice A3 N3.length a3, .slice B3 H3.length b3, .slice D3 T3.length d3] 24)).heap.size := by rw [size_alloc]; omega
                have CA7 : Hid (ChA (((w6.setCell ⟨w4.heap.size, 0, none⟩ (.slice A6 N6.length a6)).setCell ⟨w4.heap.size, 1, none⟩ (.slice B6 H6.length b6)).setCell ⟨w4.heap.size, 2, none⟩ (.slice D6 T6.length d6)) w2.heap.size (w2.heap.size + 1) hs A6 N6.length B6 H6.length D6 T6.length N6 H6 T6) := Lib.hid ((ChA.fresh ho6 (Nat.lt_trans S4.out.box.lt hbase) (Nat.lt_trans S4.out.own.hlt.2 hbase) (fun j k hj e => Nat.lt_trans (S4.out.own.qlt hj e) hbase)).store3 (ho6.off hbase) (.slice A6 N6.length a6) (.slice B6 H6.length b6) (.slice D6 T6.length d6))
                have u0 := kn6.e0
                have u1 := kn6.e1
                have u2 := kn6.e2
                have g0 := kn6.frozen 0
                have g1 := kn6.frozen 1
                have g2 := kn6.frozen 2
                have hh := (S7.out.own.at_ hi0).1
                rw [HAi0.out, HCi0.out, HZi0.out] at hh
                have i7 := (S7.out.own.own i0 hi0).ints
                rw [HAi0.out, HZi0.out] at i7
                have I7 := Lib.hid i7
                have hl8 : zs.length ≤ 1024 := HZi0.out ▸ R3.out.short hi0
                have HFX : Hid (∀ q ∈ zs, Fit q) := Lib.hid i7.2.2.1
                have LZS := Lib.hid i7.1
                clear i7 hb6 hb57 kn6 hbase ho6 a_4 b_4 c_4 a_5 b_5 c_5 p0 S5 KN HB5 S4
                go_wp2
                clear hh u0 u1 u2 g0 g1 g2
                generalize (((w6.setCell ⟨w4.heap.size, 0, none⟩ (.slice A6 N6.length a6)).setCell ⟨w4.heap.size, 1, none⟩ (.slice B6 H6.length b6)).setCell ⟨w4.heap.size, 2, none⟩ (.slice D6 T6.length d6)) = W7 at S7 CA7 KN7 I7 ⊢
                go_loopw [20, 224] (fun u t wx => ∃ k : Nat, k ≤ zs.length ∧ t = .int .i64 k ∧ ∃ (E : Option Addr) (f v : Nat) (ys : List Int), u = .slice E v f ∧ v ≤ k ∧ Hid (ys = (zs.take k).filter (fun q => q != (x : Int)) ∧ ys.length = v) ∧ Hid (OwnI 3 wx W7.heap.size E f ys ∧ Below W7.heap.size W7 wx)) (fun _ t _ => zs.length - (intOf t).toNat)
                case atStart => exact ⟨0, Nat.zero_le _, rfl, none, 0, 0, [], rfl, Nat.le_refl _, Lib.hid ⟨rfl, rfl⟩, Lib.hid ⟨OwnI.nil_ _ _ _, Below.refl _ _⟩⟩
                case round =>
                  rename World => wx
                  obtain ⟨k, hk, rfl, E, f, v, ys, rfl, hvk, HYS, HOX⟩ := hrel
                  have LV := Lib.hid HYS.out.2
                  by_cases hlt2 : k < zs.length
                  · obtain ⟨bq, oq, rfl, hbq, hcq⟩ := I7.out.2.2.2 (by omega)
                    have cq := (HOX.out.2.cell (p := ⟨bq, oq + k, none⟩) hbq).trans (hcq k hlt2)
                    have htk : zs.take (k + 1) = zs.take k ++ [nth zs k] := by rw [List.take_succ_eq_append_getElem hlt2, nth_get hlt2]
                    have HFT := Lib.hid (HFX.out _ (nth_mem_ hlt2))
                    obtain ⟨yv, hyv⟩ : ∃ yv, nth zs k = yv := ⟨_, rfl⟩
                    rw [hyv] at cq htk HFT
                    have HTK := Lib.hid htk
                    clear hbq hcq hyv htk
                    by_cases e : yv = (x : Int)
                    · have he : (yv != (x : Int)) = false := by simpa using e
                      have HY2 : Hid (ys = (zs.take (k + 1)).filter (fun q => q != (x : Int)) ∧ ys.length = v) := Lib.hid (by rw [HTK.out, List.filter_append]; simp only [List.filter_cons, he]; simpa using HYS.out)
                      clear e
                      go_wp2
                      go_roundw
                      case rel => exact ⟨k + 1, by omega, by go_num, E, f, v, ys, rfl, by omega, HY2, HOX⟩
                      case measure => simp [intOf]; omega
                    · have he : (yv != (x : Int)) = true := by simpa using e
                      have HY2 : Hid (ys ++ [yv] = (zs.take (k + 1)).filter (fun q => q != (x : Int)) ∧ (ys ++ [yv]).length = v + 1) := Lib.hid (by rw [HTK.out, List.filter_append]; simp only [List.filter_cons, he]; exact ⟨by rw [HYS.out.1]; simp, by rw [List.length_append, LV.out]; rfl⟩)
                      have O1 := Lib.hid (HOX.out.1.below ((Below.refl wx.heap.size wx).alloc (Nat.le_refl _) (.cells #[.int .i64 yv] 3)))
                      have B1 := Lib.hid (HOX.out.2.alloc HOX.out.2.size (.cells #[.int .i64 yv] 3))
                      clear e
                      go_wp2_with (at_builtin; refine wpList_append_ints _ rfl _ _ 22 rfl 3 Try.underlying22 Try.intInfo W7.heap.size E f ys v LV.out.symm rfl O1.out (some ⟨wx.heap.size, 0, none⟩) 1 1 [yv] rfl (ints1 wx 3 HFT.out) (by rw [LV.out]; omega) B1.out.size ?_)
                      intro A9 c9 w9 ho9 hg9
                      have O9 : Hid (OwnI 3 w9 W7.heap.size A9 c9 (ys ++ [yv]) ∧ Below W7.heap.size W7 w9) := Lib.hid ⟨ho9, B1.out.grown hg9 B1.out.size O1.out.block⟩
                      rw [LV.out]
                      clear ho9 hg9 cq
                      go_wp2
                      go_roundw
                      case rel => exact ⟨k + 1, by omega, by go_num, A9, c9, v + 1, ys ++ [yv], rfl, by omega, HY2, O9⟩
                      case measure => simp [intOf]; omega
                  · obtain rfl : k = zs.length := by omega
                    have hF : ys = zs.filter (fun q => q != (x : Int)) := by rw [HYS.out.1, List.take_of_length_le (Nat.le_refl _)]
                    have r6 := R6.out
                    rw [← hF] at r6
                    have R7 := Lib.hid r6
                    have hbx := HOX.out.2
                    obtain ⟨⟨v9, cv9⟩, fr9, S10, K10, C10⟩ := S7.out.put (W6 := wx) (row := qblk (qa hs i0)) hi0 ⟨hbx.os, hbx.tape, hbx.output, hbx.size, fun k hk _ => hbx.block k hk⟩ rfl (ln := v) LV.out (HOX.out.1.que.base_ S7.out.below.size) (fun k hk => .inr (HOX.out.1.block k hk))
                    have k10 := (K10 KN7.out (by decide) (by decide)).2
                    have k9 := (K10 KN7.out (by decide) (by decide)).1
                    have S11 := Lib.hid (S10.take (a2 := a6) (b2 := b6) (d2 := d6) (C10 CA7.out))
                    have n0 := k10.e0
                    have n1 := k10.e1
                    have n2 := k10.e2
                    have s0 := S10.box.e0
                    have s1 := S10.box.e1
                    have s2 := S10.box.e2
                    have f0 := S10.box.frozen 0
                    have f1 := S10.box.frozen 1
                    have f2 := S10.box.frozen 2
                    clear S10 K10 C10 k10 k9 r6 hF hbx S7 CA7 KN7
                    have x0 := S11.out.box.e0
                    have x1 := S11.out.box.e1
                    have x2 := S11.out.box.e2
                    go_wp2_with fail
                    refine (holds_N A6 B6 D6 _ N6.length a6 H6.length b6 T6.length d6 mm w2.heap.size N6 H6 T6 _ _ mm (by simp [LQ3.out]) _ S11.out.ch.chn R7.out S11.out.own).mono ?_
                    rintro e w12 ⟨rfl, hb12⟩
                    have S12 := Lib.hid (S11.out.call hb12)
                    clear hb12 x0 x1 x2
                    go_wp2
                    go_roundw
                    case rel => exact ⟨j + 1, by omega, by go_num, Lib.hid ⟨A6, B6, D6, a6, b6, d6, N6, H6, T6, _, _, LN6.out, by simp [LQ3.out], R7.out, S12.out⟩⟩
                    case measure => simp [intOf]; omega
          · have k0 : (kd == 0) = false := by simp [e0]
            have k1 : (kd == 1) = false := by simp [e1]
            have k2 : (kd == 2) = false := by simp [e2]
            clear e0 e1 e2
            by_cases hit : i = t
            · as_aux_lemma =>
                subst hit
                have HII : Hid (inBd (i : Int) (H3.length : Int) = true) := Lib.hid (by rw [R3.out.lh, LQ3.out]; simp [inBd]; omega)
                go_wp2_with fail
                refine (join_same A3 B3 D3 N3.length a3 H3.length b3 T3.length d3 N3 H3 T3 i qs R3.out HII.out _ S5.out.ch.chn).mono ?_
                rintro e w6 ⟨A6, a6, B6, b6, D6, d6, rfl, ho6, hb6⟩
                have hb57 := below3 HB5.out hb6
                have kn6 := KN.out.below hb6 KN.out.lt
                have S7 := Lib.hid (S4.out.call (below_store hb57 (Nat.le_refl _) (.slice A6 0 a6) (.slice B6 0 b6) (.slice D6 0 d6)))
                have u0 := kn6.e0
                have u1 := kn6.e1
                have u2 := kn6.e2
                have g0 := kn6.frozen 0
                have g1 := kn6.frozen 1
                have g2 := kn6.frozen 2
                have hh := (S7.out.own.at_ hiq).1
                clear hb6 hb57 kn6 ho6 a_4 b_4 c_4 a_5 b_5 c_5 p0 S5 KN HB5 S4
                have x0 := S7.out.box.e0
                have x1 := S7.out.box.e1
                have x2 := S7.out.box.e2
                go_wp2_with fail
                refine (holds_N A3 B3 D3 _ N3.length a3 H3.length b3 T3.length d3 mm w2.heap.size N3 H3 T3 hs qs mm (LQ3.out) _ S7.out.ch.chn R3.out S7.out.own).mono ?_
                rintro e w12 ⟨rfl, hb12⟩
                have S12 := Lib.hid (S7.out.call hb12)
                clear hb12 x0 x1 x2
                go_wp2
                go_roundw
                case rel => exact ⟨j + 1, by omega, by go_num, Lib.hid ⟨A3, B3, D3, a3, b3, d3, N3, H3, T3, _, _, LN3.out, LQ3.out, R3.out, S12.out⟩⟩
                case measure => simp [intOf]; omega
            · skip
              have tij : ((i : Int) != (t : Int)) = true := by simp; omega
              obtain ⟨N6, H6, T6, l6, r6, c6⟩ := join_moves R3.out hiq htq hit
              have C6 := Lib.hid c6
              have LN6 := Lib.hid (l6.trans LN3.out)
              obtain ⟨Ai, hAi⟩ : ∃ z, (qa hs i).1 = z := ⟨_, rfl⟩
              obtain ⟨ci, hci⟩ : ∃ z, (qa hs i).2 = z := ⟨_, rfl⟩
              obtain ⟨zs, hzi⟩ : ∃ z, qth qs i = z := ⟨_, rfl⟩
              have HAi := Lib.hid hAi
              have HCi := Lib.hid hci
              have HZi := Lib.hid hzi
              obtain ⟨At, hAt⟩ : ∃ z, (qa hs t).1 = z := ⟨_, rfl⟩
              obtain ⟨ct, hct⟩ : ∃ z, (qa hs t).2 = z := ⟨_, rfl⟩
              obtain ⟨zt, hzt⟩ : ∃ z, qth qs t = z := ⟨_, rfl⟩
              have HAt := Lib.hid hAt
              have HCt := Lib.hid hct
              have HZt := Lib.hid hzt
              rw [hzi, hzt] at r6
              have R6 := Lib.hid r6
              clear l6 r6 c6 hzi hAi hci hzt hAt hct
              go_wp2_with fail
              refine (C6.out A3 B3 D3 N3.length a3 H3.length b3 T3.length d3 _ S5.out.ch.chn).mono ?_
              rintro e w6 ⟨A6, a6, B6, b6, D6, d6, rfl, ho6, hb6⟩
              have hb57 := below3 HB5.out hb6
              have kn6 := KN.out.below hb6 KN.out.lt
              have S7 := Lib.hid (S4.out.call (below_store hb57 (Nat.le_refl _) (.slice A6 N6.length a6) (.slice B6 H6.length b6) (.slice D6 T6.length d6)))
              have KN7 := Lib.hid (bk_store kn6 (.slice A6 N6.length a6) (.slice B6 H6.length b6) (.slice D6 T6.length d6))
              have hbase : w4.heap.size < (w4.alloc (.cells #[.slice A3 N3.length a3, .slice B3 H3.length b3, .slice D3 T3.length d3] 24)).heap.size := by rw [size_alloc]; omega
              have CA7 : Hid (ChA (((w6.setCell ⟨w4.heap.size, 0, none⟩ (.slice A6 N6.length a6)).setCell ⟨w4.heap.size, 1, none⟩ (.slice B6 H6.length b6)).setCell ⟨w4.heap.size, 2, none⟩ (.slice D6 T6.length d6)) w2.heap.size (w2.heap.size + 1) hs A6 N6.length B6 H6.length D6 T6.length N6 H6 T6) := Lib.hid ((ChA.fresh ho6 (Nat.lt_trans S4.out.box.lt hbase) (Nat.lt_trans S4.out.own.hlt.2 hbase) (fun j k hj e => Nat.lt_trans (S4.out.own.qlt hj e) hbase)).store3 (ho6.off hbase) (.slice A6 N6.length a6) (.slice B6 H6.length b6) (.slice D6 T6.length d6))
              have u0 := kn6.e0
              have u1 := kn6.e1
              have u2 := kn6.e2
              have g0 := kn6.frozen 0
              have g1 := kn6.frozen 1
              have g2 := kn6.frozen 2
              have S8 := Lib.hid (S7.out.call (Below.refl _ _).drew)
              have CA8 := Lib.hid (CA7.out.below (Below.refl _ _).drew)
              have KN8 := Lib.hid KN7.out.drew
              have hti := (S7.out.own.at_ hiq).1
              rw [HAi.out, HCi.out, HZi.out] at hti
              have htt := (S7.out.own.at_ htq).1
              rw [HAt.out, HCt.out, HZt.out] at htt
              clear hb6 hb57 kn6 hbase ho6 a_4 b_4 c_4 a_5 b_5 c_5 p0 S5 KN HB5 S4
              go_wp2_with fail
              clear u0 u1 u2 g0 g1 g2
              generalize (((w6.setCell ⟨w4.heap.size, 0, none⟩ (.slice A6 N6.length a6)).setCell ⟨w4.heap.size, 1, none⟩ (.slice B6 H6.length b6)).setCell ⟨w4.heap.size, 2, none⟩ (.slice D6 T6.length d6)) = W7 at S7 S8 CA7 CA8 KN7 KN8 hti htt ⊢
              have q3 := S8.out.own
              have hgb := q3.hlt.1
              have oi := (q3.own i hiq).ints
              rw [HAi.out, HZi.out] at oi
              have ot := q3.own t htq
              rw [HAt.out, HCt.out, HZt.out] at ot
              have hl1 : zs.length ≤ 1024 := HZi.out ▸ R3.out.short hiq
              have hl2 : zt.length ≤ 1024 := HZt.out ▸ R3.out.short htq
              obtain ⟨A9, c9, w9, hr9, hq9, hg9, hf9⟩ := run_append_que (P := Try.prog) W7.drew 22 22 3 Try.underlying22 Try.intInfo w2.heap.size At ct zt ot Ai zs.length ci zs oi (by omega) S8.out.below.size
              obtain ⟨ln, hln⟩ : ∃ z, (zt ++ zs).length = z := ⟨_, rfl⟩
              rw [hln] at hr9
              obtain ⟨⟨v9, cv9⟩, fr9, S10, K10, C10⟩ := S8.out.put htq hg9 (by rw [← HAt.out]; exact blk_any _ _ _) hln hq9 (fun k hk => by have := hf9 k hk; rw [← HAt.out] at this; exact this)
              have hi10 : i < (qs.set t (zt ++ zs)).length := by simpa using hiq
              have hti0 := (S10.own.at_ hi10).1
              have hfi10 := (S10.own.at_ hi10).2
              have hti9 : w9.cell? ⟨w2.heap.size + 1, i, none⟩ = some (.slice Ai zs.length ci) := by
                have := hti0
                rw [World.cell?_setCell_other _ _ _ _ (by intro e; injection e with _ e _; omega), qa_set _ _ _ _ (by rw [q3.len]; exact hiq), if_neg (fun e => hit e.symm), qth_set _ _ _ _ hiq, if_neg (fun e => hit e.symm), HAi.out, HCi.out, HZi.out] at this
                exact this
              have hti10 : (w9.setCell ⟨w2.heap.size + 1, t, none⟩ (.slice A9 ln c9)).cell? ⟨w2.heap.size + 1, i, none⟩ = some (.slice Ai zs.length ci) := by
                rw [World.cell?_setCell_other _ _ _ _ (by intro e; injection e with _ e _; omega)]; exact hti9
              obtain ⟨-, -, S13, K13, C13⟩ := S10.put (row := qblk (qa (hs.set t (A9, c9)) i)) hi10 (World.grownBy.refl _ _) rfl (l := []) (A' := none) (c' := 0) (ln := 0) rfl (OwnQ.nil_ _ _ _) (fun k hk => by simp [Value.ownBlock] at hk)
              have k10 := (K10 KN8.out (by decide) (by decide)).2
              have CA10 := C10 CA8.out
              have k13 := (K13 k10 (by decide) (by decide)).2
              have S11 := Lib.hid (S13.take (a2 := a6) (b2 := b6) (d2 := d6) (C13 CA10))
              have n0 := k13.e0
              have n1 := k13.e1
              have n2 := k13.e2
              have s0 := S13.box.e0
              have s1 := S13.box.e1
              have s2 := S13.box.e2
              have f0 := S13.box.frozen 0
              have f1 := S13.box.frozen 1
              have f2 := S13.box.frozen 2
              have hti' : ¬ t = i := fun e => hit e.symm
              rw [World.frozen?_setCell] at hfi10
              clear hti0 S13 K13 C13 K10 C10 k10 CA10 k13 S10 hq9 hg9 hf9 ot oi CA7 CA8 KN7 KN8 S7
              refine wp_region_held (S := fun U => U = W7.drew ∨ U = w9 ∨ U = w9.setCell ⟨w2.heap.size + 1, t, none⟩ (.slice A9 ln c9)) (by kernel_rfl) ?_
              change wpAnyH _ _ _ _ _ _ _ _ (World.drew _)
              have hS0 : (fun U => U = W7.drew ∨ U = w9 ∨ U = w9.setCell ⟨w2.heap.size + 1, t, none⟩ (.slice A9 ln c9)) W7.drew := .inl rfl
              refine take_at (i := 0) (d := 113) (v := .slice (some ⟨w2.heap.size + 1, 0, none⟩) mm mm) rfl rfl (by kernel_rfl) (by kernel_rfl) (by kernel_rfl) (fun _ _ _ h => h) (.inl ⟨by kernel_rfl, fun U hU => by go_simp⟩) hS0 ?_
              refine take_at (i := 1) (d := 114) (v := .int .i64 t) rfl rfl (by kernel_rfl) (by kernel_rfl) (by kernel_rfl) (fun _ _ _ h => h) (.inl ⟨by kernel_rfl, fun U hU => by go_simp⟩) hS0 ?_
              refine take_at (i := 2) (d := 115) (v := .slice (some ⟨w2.heap.size + 1, 0, none⟩) mm mm) rfl rfl (by kernel_rfl) (by kernel_rfl) (by kernel_rfl) (fun _ _ _ h => h) (.inl ⟨by kernel_rfl, fun U hU => by go_simp⟩) hS0 ?_
              refine take_at (i := 3) (d := 116) (v := .int .i64 t) rfl rfl (by kernel_rfl) (by kernel_rfl) (by kernel_rfl) (fun _ _ _ h => h) (.inl ⟨by kernel_rfl, fun U hU => by go_simp⟩) hS0 ?_
              refine take_at (i := 4) (d := 117) (v := .pointer (some ⟨w2.heap.size + 1, t, none⟩)) rfl rfl (by kernel_rfl) (by kernel_rfl) (by kernel_rfl) (fun _ _ _ h => h) (.inl ⟨by kernel_rfl, fun U hU => by go_simp⟩) hS0 ?_
              refine take_at (i := 6) (d := 119) (v := .slice (some ⟨w2.heap.size + 1, 0, none⟩) mm mm) rfl rfl (by kernel_rfl) (by kernel_rfl) (by kernel_rfl) (fun _ _ _ h => h) (.inl ⟨by kernel_rfl, fun U hU => by go_simp⟩) hS0 ?_
              refine take_at (i := 7) (d := 120) (v := .int .i64 i) rfl rfl (by kernel_rfl) (by kernel_rfl) (by kernel_rfl) (fun _ _ _ h => h) (.inl ⟨by kernel_rfl, fun U hU => by go_simp⟩) hS0 ?_
              refine take_at (i := 8) (d := 121) (v := .pointer (some ⟨w2.heap.size + 1, i, none⟩)) rfl rfl (by kernel_rfl) (by kernel_rfl) (by kernel_rfl) (fun _ _ _ h => h) (.inl ⟨by kernel_rfl, fun U hU => by go_simp⟩) hS0 ?_
              refine take_at (i := 9) (d := 122) (v := .slice Ai zs.length ci) rfl rfl (by kernel_rfl) (by kernel_rfl) (by kernel_rfl) (fun _ _ _ h => h) (.inl ⟨by kernel_rfl, fun U hU => by rcases hU with rfl | rfl | rfl; (go_simp); (go_simp); go_simp⟩) hS0 ?_
              simp only [Act.put, List.setIfInBounds_toArray, List.set_cons_zero, List.set_cons_succ]
              refine wpAnyH_all (rs := [5]) (by kernel_rfl) (by simp) ?_
              intro i' hi'
              simp only [List.mem_cons, List.not_mem_nil, or_false] at hi'
              subst hi'
              unfold wpOp
              go_simp
              left
              refine wpAnyH_all (rs := [10]) (by kernel_rfl) (by simp) ?_
              intro i' hi'
              simp only [List.mem_cons, List.not_mem_nil, or_false] at hi'
              subst hi'
              refine wpOp_append (.tmp 118) (.tmp 122) 22 (.slice A9 ln c9) (.slice At zt.length ct) (.slice Ai zs.length ci) rfl (by kernel_rfl) rfl (by kernel_rfl) (by kernel_rfl) hr9 ?_
              refine ⟨.inr (.inl rfl), ?_⟩
              refine take_at (i := 11) (d := 124) (v := .pointer (some ⟨w2.heap.size + 1, t, none⟩)) rfl rfl (by kernel_rfl) (by kernel_rfl) (by kernel_rfl) (fun _ _ _ h => h) (.inl ⟨by kernel_rfl, fun U hU => by go_simp⟩) (.inr (.inl rfl)) ?_
              simp only [Act.put, List.setIfInBounds_toArray]
              refine wpAnyH_all (rs := [12]) (by kernel_rfl) (by simp) ?_
              intro i' hi'
              simp only [List.mem_cons, List.not_mem_nil, or_false] at hi'
              subst hi'
              unfold wpOp
              go_simp
              left
              refine ⟨by kernel_rfl, ?_⟩
              have x0 := S11.out.box.e0
              have x1 := S11.out.box.e1
              have x2 := S11.out.box.e2
              go_wp2_with fail
              refine (holds_N A6 B6 D6 _ N6.length a6 H6.length b6 T6.length d6 mm w2.heap.size N6 H6 T6 _ _ mm (by simp [LQ3.out]) _ S11.out.ch.chn R6.out S11.out.own).mono ?_
              rintro e w12 ⟨rfl, hb12⟩
              have S12 := Lib.hid (S11.out.call hb12)
              clear hb12 x0 x1 x2
              go_wp2
              go_roundw
              case rel => exact ⟨j + 1, by omega, by go_num, Lib.hid ⟨A6, B6, D6, a6, b6, d6, N6, H6, T6, _, _, LN6.out, by simp [LQ3.out], R6.out, S12.out⟩⟩
              case measure => simp [intOf]; omega
    · obtain ⟨A3, B3, D3, a3, b3, d3, N3, H3, T3, hs, qs, -, -, -, hS⟩ := HR.out
      have BZ := Lib.hid (below3 BV.out hS.below)
      clear hS HR
      go_wp2
      go_ret
      exact ⟨rfl, BZ.out⟩

theorem lqueues_any (A : Option Addr) (n c : Nat) (l : List OpT) (nodes lists : Int) (w : World) (ho : Opq w A n l) :
    Calls Try.prog 5 #[.int .i64 nodes, .int .i64 lists, .slice A n c] w (TrueAns w) := by
  by_cases h : nodes < 1 ∨ 12 < nodes ∨ lists < 1 ∨ 5 < lists ∨ 80 < n
  · exact lqueues_out A n c nodes lists w (by have := ho.1; omega) h
  · obtain ⟨nn, rfl⟩ : ∃ nn : Nat, nodes = (nn : Int) := ⟨nodes.toNat, by omega⟩
    obtain ⟨mm, rfl⟩ : ∃ mm : Nat, lists = (mm : Int) := ⟨lists.toNat, by omega⟩
    exact lqueues_main A n c nn mm l w ho (by omega) (by omega) (by omega) (by omega) (by omega)

end Go.Proofs.Ytiheeehegjfmgaa

/-
  The walk of the law SlotOnce of layer 5.
-/
import Derived.Test.YtfaajimmammfdaaOncS
import Derived.Test.YtfaajimmammfdaaLive
import Derived.Test.YtfaajimmammfdaaPj
import Derived.Test.YtfaajimmammfdaaPh
import Derived.Test.YtfaajimmammfdaaPRow
import Derived.Test.YtfaajimmammfdaaLIds
namespace Go.Proofs.Ytfaajimmammfdaa
open Go.RowKit

theorem fit_at {gs : List Int} {ls : List Bool} {i : Nat} (h : okS gs ls) (hi : i < gs.length) : Fit (idP gs i) := by
  obtain ⟨h1, h2, _⟩ := h.2.2.2 i hi
  have := h.2.1
  unfold Fit idP
  omega
theorem neg_mod {q : Int} (hq : q < 0) {z : Nat} (hz : 0 < z) : ∃ r : Nat, r < z ∧ -((q + 1).tmod (z : Int)) = (r : Int) := by
  have h0 : 0 ≤ (-(q + 1)).tmod (z : Int) := Int.tmod_nonneg _ (by omega)
  have h1 : (-(q + 1)).tmod (z : Int) < (z : Int) := Int.tmod_lt_of_pos _ (by omega)
  rw [Int.neg_tmod] at h0 h1
  exact ⟨(-((q + 1).tmod (z : Int))).toNat, by omega, by omega⟩

theorem nth_mem {zs : List Int} {j : Nat} (h : j < zs.length) : nth zs j ∈ zs := by rw [nth_get h]; exact List.getElem_mem h

/-- The relation of the first loop. -/
def OnRel (W : World) (g bg be n N : Nat) (u10 u11 t : Value) (wr : World) : Prop :=
  ∃ k : Nat, k ≤ N ∧ t = .int .i64 k ∧ ∃ A c B d gs ls f ev Aa ca all z, ∃ h : Nat, u10 = .slice Aa z ca ∧ u11 = .int .i64 (h : Int) ∧ h ≤ n ∧ OnS W wr g bg be n A c B d gs ls k f ev Aa ca all ∧ Hid (OnM n k gs ls all z f ev ∧ h = hereN ls n)

set_option maxRecDepth 100000 in
set_option maxHeartbeats 4000000 in
theorem lonce_long (A : Option Addr) (N c : Nat) (n : Int) (w : World) (hN : N ≤ 9223372036854775807) (h : 150 < N) :
    Calls Try.prog 4 #[.int .i64 n, .slice A N c] w (TrueAns w) := by
  go_enter Try.func4, Try.ntmps4
  go_wp2_with fail
  refine (live_any _).mono ?_
  rintro e w1 ⟨rfl, hb1⟩
  have HB1 := Lib.hid hb1
  clear hb1
  go_wp2
  go_ret
  exact ⟨rfl, HB1.out⟩

set_option maxRecDepth 100000 in
set_option maxHeartbeats 4000000 in
theorem lonce_no (A : Option Addr) (N c : Nat) (n : Int) (w : World) (hN : N ≤ 150) (h : n < 1 ∨ 256 < n) :
    Calls Try.prog 4 #[.int .i64 n, .slice A N c] w (TrueAns w) := by
  have H := Lib.hid h
  rcases h with h | h
  · go_enter Try.func4, Try.ntmps4
    go_wp2_with fail
    refine (live_any _).mono ?_
    rintro e w1 ⟨rfl, hb1⟩
    have HB1 := Lib.hid hb1
    clear hb1
    go_wp2_with fail
    refine (new_no n _ H.out).mono ?_
    rintro e w2 ⟨A2, c2, B2, d2, rfl, ho2, hb2⟩
    have HB2 := Lib.hid (below3 HB1.out (hb2.alloc hb2.size (.cells #[.slice A2 0 c2, .slice B2 0 d2] 25)))
    clear ho2 hb2
    go_wp2
    go_ret
    exact ⟨rfl, HB2.out⟩
  · have h' : ¬ n < 1 := by omega
    go_enter Try.func4, Try.ntmps4
    go_wp2_with fail
    refine (live_any _).mono ?_
    rintro e w1 ⟨rfl, hb1⟩
    have HB1 := Lib.hid hb1
    clear hb1
    go_wp2_with fail
    refine (new_no n _ H.out).mono ?_
    rintro e w2 ⟨A2, c2, B2, d2, rfl, ho2, hb2⟩
    have HB2 := Lib.hid (below3 HB1.out (hb2.alloc hb2.size (.cells #[.slice A2 0 c2, .slice B2 0 d2] 25)))
    clear ho2 hb2
    go_wp2
    go_ret
    exact ⟨rfl, HB2.out⟩

set_option maxRecDepth 100000 in
set_option maxHeartbeats 8000000 in
theorem lonce_yes (A : Option Addr) (N c n : Nat) (os : List Int) (w : World) (hN : N ≤ 150) (ho : Shorts w A N os) (h1 : 1 ≤ n) (h2 : n ≤ 256) :
    Calls Try.prog 4 #[.int .i64 (n : Int), .slice A N c] w (TrueAns w) := by
  have HS := Lib.hid ho
  clear ho
  go_enter Try.func4, Try.ntmps4
  go_wp2_with fail
  refine (live_any _).mono ?_
  rintro e w1 ⟨rfl, hb1⟩
  have HB1 := Lib.hid hb1
  clear hb1
  go_wp2_with fail
  refine (new_yes n _ h1 h2).mono ?_
  rintro e w2 ⟨A2, c2, B2, d2, rfl, ho2, hb2⟩
  have hz1 : (zerosN n).length = n := by simp [zerosN]
  have hz2 : (falsesN n).length = n := by simp [falsesN]
  have V2 := PV.new HB1.out hb2 ho2 hz1 hz2
  have X := V2.var (.map #[] 0)
  have M1 := FMap.made (w2.alloc (.cells #[.slice A2 n c2, .slice B2 n d2] 25))
  have M2 := FMap.made ((w2.alloc (.cells #[.slice A2 n c2, .slice B2 n d2] 25)).alloc (.map #[] 0))
  have M1' := M1.below ((Below.refl _ _).alloc (Nat.le_refl _) (.map #[] 0))
  rw [size_alloc] at M1'
  rw [size_alloc, size_alloc] at M2
  have S0 := Lib.hid (OnS.mk (X.var (.map #[] 0)) M1' M2 (OwnI.nil_ 2 _ _) (by omega) (by omega))
  have MM := Lib.hid (once_new n h1 h2)
  have H0 := Lib.hid (here_new n)
  rw [hz1, hz2]
  clear hz1 hz2 V2 X M1 M2 M1' ho2 hb2
  have mk : ∀ w, (Instr.makeMap 43 none).run Try.prog w = .ok (.map (some w.heap.size)) (w.alloc (.map #[] 0)) := fun w => rfl
  go_wp2
  clear mk
  go_loopw [10, 11, 55] (fun u10 u11 t wr => OnRel w w2.heap.size (w2.heap.size + 1) (w2.heap.size + 1 + 1) n N u10 u11 t wr) (fun _ _ t _ => N - (intOf t).toNat)
  case atStart => exact ⟨0, Nat.zero_le _, rfl, A2, c2, B2, d2, zerosN n, falsesN n, _, _, none, 0, [], 0, 0, rfl, rfl, Nat.zero_le _, S0.out, Lib.hid ⟨MM.out, H0.out.symm⟩⟩
  case round =>
    rename World => wo
    obtain ⟨k, hk, rfl, D, c', E, d', gs, ls, f, ev, Aa, ca, all, z, hh, rfl, rfl, hhn, hS, HM⟩ := hrel
    have S := Lib.hid hS
    clear hS
    have a0 := S.out.var.box.c0
    have a1 := S.out.var.box.c1
    by_cases hlt : k < N
    · obtain ⟨b, o, rfl, hb, hc⟩ := HS.out.2.2 (by omega)
      have co := (S.out.var.below.cell (p := ⟨b, o + k, none⟩) hb).trans (hc k hlt)
      have hr := HS.out.2.1 _ (nth_mem (zs := os) (j := k) (by rw [HS.out.1]; exact hlt))
      obtain ⟨q, hq⟩ : ∃ q, nth os k = q := ⟨_, rfl⟩
      rw [hq] at co hr
      clear hc hb hq
      have HOK := Lib.hid HM.out.1.ok
      have LN := Lib.hid HM.out.1.ln
      have LM := Lib.hid HM.out.1.lm
      have LZ := Lib.hid HM.out.1.len
      have hzk := HM.out.1.few
      have HHE := Lib.hid HM.out.2
      by_cases hq0 : 0 ≤ q
      · rcases first_or gs ls with ⟨i, hi⟩ | hf
        · have HT := Lib.hid (takeF_first HOK.out hi)
          have MM2 := HM.out.1.take hi
          have HH2 := HM.out.1.here_take hi
          have hev := HM.out.1.fresh hi
          have hfy := fit_at HOK.out hi.1
          have hle := hereN_le (ls.set i true) n
          obtain ⟨y, hy⟩ : ∃ y, idP gs i = y := ⟨_, rfl⟩
          have HY := Lib.hid hy
          rw [hy] at MM2 hev hfy
          have HFY := Lib.hid hfy
          have LS : Hid ((ls.set i true).length = n) := Lib.hid ((List.length_set ..).trans LM.out)
          have HH3 : Hid (hh + 1 = hereN (ls.set i true) n) := Lib.hid (by rw [HH2, HHE.out])
          have hh1 : hh + 1 ≤ n := by have := HH3.out; omega
          have M2 := Lib.hid MM2
          clear hi hy hfy MM2 HH2 hle
          go_wp2_with fail
          refine (take_any D E n c' n d' gs ls _ S.out.var.plc).mono ?_
          rw [HT.out]
          rintro e w5 ⟨A5, c5, B5, d5, rfl, ho5, hb5⟩
          simp only [HY.out, LN.out, LS.out]
          have T0 := S.out.begin hb5 ho5 LN.out LS.out
          have hl := T0.fe.lookup HFY.out
          rw [hev] at hl
          obtain ⟨w6, hu6, hf6, hg6⟩ := T0.fe.update HFY.out true (by omega)
          have T1 := T0.updE hg6 hf6
          obtain ⟨w7, hu7, hf7, hg7⟩ := T1.fg.update HFY.out true (by omega)
          have T2 := Lib.hid (T1.updG hg7 hf7)
          have O8 := Lib.hid (T2.out.al.below ((Below.refl w7.heap.size w7).alloc (Nat.le_refl _) (.cells #[.int .i64 y] 2)))
          have HZ8 := Lib.hid (show w2.heap.size + 1 + 1 + 1 ≤ (w7.alloc (.cells #[.int .i64 y] 2)).heap.size by have := T2.out.fe.lt; rw [size_alloc]; omega)
          have HHI := Lib.hid (OnI_lt S.out.al (n := z) (d := ca))
          clear hev ho5 hb5 T0 hf6 hg6 T1 hf7 hg7 a0 a1 co S
          go_wp2_with (at_builtin; refine wpList_append_ints _ rfl _ _ 22 rfl 2 Try.underlying22 Try.intsInfo (w2.heap.size + 1 + 1 + 1) Aa ca all z LZ.out.symm rfl O8.out (some ⟨w7.heap.size, 0, none⟩) 1 1 [y] rfl (ints1 w7 2 HFY.out) (by rw [LZ.out]; omega) HZ8.out ?_)
          intro A8 c8 w8 ho8 hg8
          have T3 := Lib.hid (T2.out.app hg8 T2.out.al.block HHI.out ho8)
          have x0 := T3.out.box.c0
          have x1 := T3.out.box.c1
          have f0 := T3.out.box.frozen 0
          have f1 := T3.out.box.frozen 1
          have n0 := T3.out.nxt.c0
          have n1 := T3.out.nxt.c1
          rw [LZ.out]
          clear ho8 hg8 hl hu6 hu7 T2 O8
          go_wp2
          go_roundw
          case rel => exact ⟨k + 1, by omega, by go_num, A5, c5, B5, d5, gs, ls.set i true, upd f y true, upd ev y true, A8, c8, all ++ [y], z + 1, hh + 1, rfl, by go_num, hh1, T3.out.store, Lib.hid ⟨M2.out, HH3.out⟩⟩
          case measure => simp [intOf]; omega
        · have HT := Lib.hid (takeF_full HOK.out hf)
          have hful := HM.out.1.full (by omega) hf
          have hhn2 : hh = n := HHE.out.trans hful
          have MM2 := Lib.hid HM.out.1.stay
          clear hf hful
          subst hhn2
          go_wp2_with fail
          refine (take_any D E hh c' hh d' gs ls _ S.out.var.plc).mono ?_
          rw [HT.out]
          rintro e w5 ⟨A5, c5, B5, d5, rfl, ho5, hb5⟩
          have S5 := Lib.hid (S.out.call (hb5.alloc hb5.size (.cells #[.slice A5 0 c5, .slice B5 0 d5] 25))).more
          clear ho5 hb5 a0 a1 co
          go_wp2
          go_roundw
          case rel => exact ⟨k + 1, by omega, by go_num, D, c', E, d', gs, ls, f, ev, Aa, ca, all, z, hh, rfl, rfl, Nat.le_refl _, S5.out, Lib.hid ⟨MM2.out, HHE.out⟩⟩
          case measure => simp [intOf]; omega
      · by_cases hz : z = 0
        · have S5 := Lib.hid S.out.more
          have MM2 := Lib.hid HM.out.1.stay
          subst hz
          clear a0 a1
          go_wp2
          go_roundw
          case rel => exact ⟨k + 1, by omega, by go_num, D, c', E, d', gs, ls, f, ev, Aa, ca, all, 0, hh, rfl, rfl, hhn, S5.out, Lib.hid ⟨MM2.out, HHE.out⟩⟩
          case measure => simp [intOf]; omega
        · obtain ⟨r, hrz, hrr⟩ := neg_mod (q := q) (by omega) (z := z) (by omega)
          have hra : r < all.length := by rw [LZ.out]; exact hrz
          obtain ⟨ga, rfl, -, -, -, -⟩ := S.out.al.form (by omega)
          have cr := (S.out.al.at_ hra).1
          have hmem := nth_mem hra
          obtain ⟨y, hy⟩ : ∃ y, nth all r = y := ⟨_, rfl⟩
          rw [hy] at cr hmem
          have HFY := Lib.hid (HM.out.1.fit hmem)
          have hzz : (z : Int) ≠ 0 := by omega
          clear hra hy
          cases hfy : f y with
          | true =>
            obtain ⟨i, hi, hl, hyi⟩ := HM.out.1.there hmem hfy
            obtain ⟨-, -, f3⟩ := freeF_at HOK.out hi hl
            have hst := freed_stale HOK.out hi hl
            have MM2 := HM.out.1.free hi hl
            have HH2 := HM.out.1.here_free hi hl
            rw [← hyi] at f3 hst MM2
            have hfn : findN (gs.set i (nth gs i + 1)) (ls.set i false) y = 0 := by rw [findN, hst]; simp
            obtain ⟨gs1, hgs1⟩ : ∃ gs1, gs.set i (nth gs i + 1) = gs1 := ⟨_, rfl⟩
            obtain ⟨ls1, hls1⟩ : ∃ ls1, ls.set i false = ls1 := ⟨_, rfl⟩
            rw [hgs1] at f3 hst MM2 hfn
            rw [hls1] at f3 hst MM2 hfn HH2
            have L1 := Lib.hid MM2.ln
            have L2 := Lib.hid MM2.lm
            have M2 := Lib.hid MM2
            have F3 := Lib.hid f3
            have FST := Lib.hid hst
            have FN := Lib.hid hfn
            obtain ⟨h', hh'⟩ : ∃ h', hh = h' + 1 := ⟨hh - 1, by have := HHE.out; omega⟩
            subst hh'
            have HH3 : Hid (h' = hereN ls1 n) := Lib.hid (by have := HHE.out; omega)
            clear hi hl hyi f3 hst MM2 HH2 hfn hgs1 hls1 hmem
            go_wp2_with fail
            refine (free_any D E n c' n d' gs ls y _ S.out.var.plc HFY.out).mono ?_
            rw [F3.out]
            rintro e w5 ⟨A5, c5, B5, d5, rfl, ho5, hb5⟩
            simp only [L1.out, L2.out]
            have T0 := S.out.begin hb5 ho5 L1.out L2.out
            have hl := T0.fg.lookup HFY.out
            rw [hfy] at hl
            obtain ⟨w6, hu6, hf6, hg6⟩ := T0.fg.update HFY.out false (by omega)
            have T1 := Lib.hid (T0.updG hg6 hf6).moreE
            have x0 := T1.out.box.c0
            have x1 := T1.out.box.c1
            have f0 := T1.out.box.frozen 0
            have f1 := T1.out.box.frozen 1
            have n0 := T1.out.nxt.c0
            have n1 := T1.out.nxt.c1
            have S7 := Lib.hid T1.out.store
            clear ho5 hb5 T0 hf6 hg6 a0 a1 co cr S hfy hrr hzz
            go_wp2_with fail
            refine (find_any A5 B5 n c5 n d5 gs1 ls1 y _ S7.out.var.plc HFY.out).mono ?_
            rintro e w8 ⟨rfl, hb8⟩
            rw [FST.out, FN.out]
            have S8 := Lib.hid (S7.out.call hb8)
            clear hb8 x0 x1 f0 f1 n0 n1 hl hu6
            go_wp2
            go_roundw
            case rel => exact ⟨k + 1, by omega, by go_num, A5, c5, B5, d5, gs1, ls1, upd f y false, ev, some ⟨ga, 0, none⟩, ca, all, z, h', rfl, by go_num, by omega, S8.out, Lib.hid ⟨M2.out, HH3.out⟩⟩
            case measure => simp [intOf]; omega
          | false =>
            have hst := HM.out.1.stale hmem hfy
            have F3 : Hid (freeF gs ls y = ([], [], 8)) := Lib.hid (by rw [freeF_no (by rw [hst]; decide), hst])
            have FST := Lib.hid hst
            have FN : Hid (findN gs ls y = 0) := Lib.hid (by rw [findN, hst]; simp)
            have MM2 := Lib.hid HM.out.1.stay
            clear hst hmem
            go_wp2_with fail
            refine (free_any D E n c' n d' gs ls y _ S.out.var.plc HFY.out).mono ?_
            rw [F3.out]
            rintro e w5 ⟨A5, c5, B5, d5, rfl, ho5, hb5⟩
            have S5 := Lib.hid (S.out.call (hb5.alloc hb5.size (.cells #[.slice A5 0 c5, .slice B5 0 d5] 25)))
            have hl := S5.out.fg.lookup HFY.out
            rw [hfy] at hl
            have x0 := S5.out.var.box.c0
            have x1 := S5.out.var.box.c1
            clear ho5 hb5 a0 a1 co cr hfy hrr hzz
            go_wp2_with fail
            refine (find_any D E n c' n d' gs ls y _ S5.out.var.plc HFY.out).mono ?_
            rintro e w8 ⟨rfl, hb8⟩
            rw [FST.out, FN.out]
            have S8 := Lib.hid (S5.out.call hb8).more
            clear hb8 x0 x1 hl
            go_wp2
            go_roundw
            case rel => exact ⟨k + 1, by omega, by go_num, D, c', E, d', gs, ls, f, ev, some ⟨ga, 0, none⟩, ca, all, z, hh, rfl, rfl, hhn, S8.out, Lib.hid ⟨MM2.out, HHE.out⟩⟩
            case measure => simp [intOf]; omega
    · have HOK := Lib.hid HM.out.1.ok
      have LN := Lib.hid HM.out.1.ln
      have HE := Lib.hid (errS_ok HOK.out)
      obtain ⟨l, hl⟩ : ∃ l, idsF gs ls = l := ⟨_, rfl⟩
      have hl2 : l = idsS gs ls gs.length := by rw [← hl, idsF, if_pos HOK.out]
      have HL := Lib.hid hl
      have HF := Lib.hid (hl2 ▸ (idsS_facts HOK.out gs.length (Nat.le_refl _)).1)
      have LL : Hid (l.length = hh) := Lib.hid (by rw [hl2, idsS_here, LN.out]; exact HM.out.2.symm)
      clear hl hl2
      go_wp2_with fail
      refine (ids_any D E n c' n d' gs ls _ S.out.var.plc).mono ?_
      rw [HL.out, HE.out]
      rintro e w5 ⟨A5, c5, rfl, ho5, hb5⟩
      rw [LL.out]
      have S5 := Lib.hid (S.out.call hb5)
      have I5 : Hid (Ints w5 A5 hh l) := Lib.hid (by have := ho5.ints; rwa [LL.out] at this)
      clear ho5 hb5 a0 a1 S
      go_wp2
      go_loopw [154] (fun t wr => ∃ j : Nat, j ≤ hh ∧ t = .int .i64 j ∧ Hid (Below w5.heap.size w5 wr)) (fun t _ => hh - (intOf t).toNat)
      case atStart => exact ⟨0, Nat.zero_le _, rfl, Lib.hid (Below.refl _ _)⟩
      case round =>
        rename World => wp
        obtain ⟨j, hj, rfl, HB⟩ := hrel
        have S6 := Lib.hid (S5.out.call HB.out)
        have a0 := S6.out.var.box.c0
        have a1 := S6.out.var.box.c1
        by_cases hlt2 : j < hh
        · obtain ⟨b, o, rfl, hb, hc⟩ := (I5.out.below HB.out).2.2.2 (by omega)
          have cj := hc j hlt2
          obtain ⟨i, hi, hbl, hxi⟩ := HF.out j (by rw [LL.out]; exact hlt2)
          obtain ⟨f1, f2, -⟩ := freeF_at HOK.out hi hbl
          have hgv := HM.out.1.given hi hbl
          have hfy := fit_at HOK.out hi
          obtain ⟨y, hy⟩ : ∃ y, nth l j = y := ⟨_, rfl⟩
          rw [← hxi] at f1 f2 hgv hfy
          rw [hy] at cj f1 f2 hgv hfy
          have F1 := Lib.hid f1
          have F2 := Lib.hid f2
          have HFY := Lib.hid hfy
          have HGV := Lib.hid hgv
          have hin : i < n := by have := LN.out; omega
          clear hb hc hi hbl hxi f1 f2 hgv hfy hy
          go_wp2_with fail
          refine (find_any D E n c' n d' gs ls y _ S6.out.var.plc HFY.out).mono ?_
          rintro e w7 ⟨rfl, hb7⟩
          rw [F1.out, F2.out]
          have S7 := Lib.hid (S6.out.call hb7)
          have hl := S7.out.fg.lookup HFY.out
          rw [HGV.out] at hl
          have HB7 := Lib.hid (below3 HB.out hb7)
          clear hb7 a0 a1 cj S6
          go_wp2
          go_roundw
          case rel => exact ⟨j + 1, by omega, by go_num, HB7⟩
          case measure => simp [intOf]; omega
        · go_wp2_with fail
          refine (check_any D E n c' n d' gs ls _ S6.out.var.plc).mono ?_
          rintro e w7 ⟨rfl, hb7⟩
          rw [HE.out]
          have HB7 := Lib.hid (below3 S6.out.var.below hb7)
          clear hb7 a0 a1 S6
          go_wp2
          go_ret
          exact ⟨rfl, HB7.out⟩

theorem lonce_any (A : Option Addr) (N c : Nat) (os : List Int) (n : Int) (w : World) (hN : N ≤ 9223372036854775807) (ho : Shorts w A N os) :
    Calls Try.prog 4 #[.int .i64 n, .slice A N c] w (TrueAns w) := by
  by_cases h : 150 < N
  · exact lonce_long A N c n w hN h
  · by_cases hn : n < 1 ∨ 256 < n
    · exact lonce_no A N c n w (by omega) hn
    · obtain ⟨m, rfl⟩ : ∃ m : Nat, n = (m : Int) := ⟨n.toNat, by omega⟩
      exact lonce_yes A N c m os w (by omega) ho (by omega) (by omega)

end Go.Proofs.Ytfaajimmammfdaa

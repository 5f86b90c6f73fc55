/-
  The document's answer of layer 4 for tasks: the table, by passes, and Tasks.
-/
import Derived.Test.YtcbgmhbmdklbfaaTasks
namespace Go.Proofs.Ytcbgmhbmdklbfaa
open Go.RowKit

/-- What the table knows behind f passes, and i places of the next one. -/
def TInv (l : List (List I3)) (f i : Nat) (ds : List Int) : Prop :=
  ds.length = l.length ∧ (∀ j, j < l.length → Known 2199023255552 l (nth ds j) j) ∧ ∀ j, j < l.length → ∀ c, cnt l (if j < i then f + 1 else f) j = some c → nth ds j ≠ 0

/-- What the innermost loop has. -/
def TSum (l : List (List I3)) (ds : List Int) (p : List I3) (k : Nat) (x : Int) : Prop :=
  (x = 0 ∧ ∃ j, j < k ∧ jO p j = 2 ∧ nth ds (jA p j).toNat = 0) ∨ ∃ f s, kidsK (cnt l f) p k = some s ∧ x = ((satN 2199023255552 s : Nat) : Int)

theorem tsum_bound {l : List (List I3)} {ds : List Int} {p : List I3} {k : Nat} {x : Int} (h : TSum l ds p k x) : 0 ≤ x ∧ x ≤ 2199023255552 := by
  rcases h with ⟨h, _⟩ | ⟨f, s, _, h⟩
  · omega
  · have := sat_le 2199023255552 s; omega
theorem tsum_other {l : List (List I3)} {ds : List Int} {p : List I3} {k : Nat} {x : Int} (h : TSum l ds p k x) (ho : jO p k ≠ 2) : TSum l ds p (k + 1) x := by
  rcases h with ⟨h, j, hj, h1, h2⟩ | ⟨f, s, hs, h⟩
  · exact .inl ⟨h, j, by omega, h1, h2⟩
  · exact .inr ⟨f, s, kids_other hs ho, h⟩
theorem tsum_stays {l : List (List I3)} {ds : List Int} {p : List I3} {k : Nat} {x : Int} (h : TSum l ds p k x) (hx : ¬ 0 < x) : TSum l ds p (k + 1) 0 := by
  rcases h with ⟨h, j, hj, h1, h2⟩ | ⟨f, s, hs, h⟩
  · exact .inl ⟨rfl, j, by omega, h1, h2⟩
  · exfalso
    have := sat_pos (b := 2199023255552) (by omega) (kids_pos hs)
    omega
theorem tsum_zero {l : List (List I3)} {ds : List Int} {p : List I3} {k : Nat} (ho : jO p k = 2) (h0 : nth ds (jA p k).toNat = 0) : TSum l ds p (k + 1) 0 := .inl ⟨rfl, k, by omega, ho, h0⟩
theorem tsum_add {l : List (List I3)} {ds : List Int} {p : List I3} {k : Nat} {x : Int} (h : TSum l ds p k x) (hx : 0 < x) (ho : jO p k = 2) (hk : Known 2199023255552 l (nth ds (jA p k).toNat) (jA p k).toNat) (hn : nth ds (jA p k).toNat ≠ 0) :
    TSum l ds p (k + 1) (min (x + nth ds (jA p k).toNat) 2199023255552) := by
  rcases h with ⟨h, _⟩ | ⟨f, s, hs, h⟩
  · omega
  · rcases hk with hk | ⟨f', m, hm, hk⟩
    · exact absurd hk hn
    · refine .inr ⟨max f f', s + m, kids_spawn (kids_mono (fun j e he => cnt_mono he (Nat.le_max_left _ _)) hs) ho (cnt_mono hm (Nat.le_max_right _ _)), ?_⟩
      rw [h, hk]
      unfold satN
      omega

/-- One place of the pass. -/
theorem tinv_set {l : List (List I3)} (hok : okL l) {f i : Nat} (hi : i < l.length) {ds : List Int} (h : TInv l f i ds) {x : Int} (hs : TSum l ds (pth l i) (runLen (pth l i)) x) : TInv l f (i + 1) (ds.set i x) := by
  obtain ⟨h1, h2, h3⟩ := h
  refine ⟨by rw [List.length_set]; exact h1, fun j hj => ?_, fun j hj c hc => ?_⟩
  · rw [nth_set _ _ _ _ (by omega)]
    split
    · rename_i e
      subst e
      rcases hs with ⟨h, _⟩ | ⟨g, s, hs, h⟩
      · exact .inl h
      · exact .inr ⟨g + 1, s, hs, h⟩
    · exact h2 j hj
  · rw [nth_set _ _ _ _ (by omega)]
    split
    · rename_i e
      subst e
      rw [if_pos (by omega)] at hc
      rcases hs with ⟨_, j', hj', ho, h0⟩ | ⟨g, s, hs, h⟩
      · exfalso
        obtain ⟨m, hm, _⟩ := kids_each (show kidsK (cnt l f) (pth l i) (runLen (pth l i)) = some c from hc) j' hj' ho
        have ha := okL_closed hok i hi j' hj' ho
        refine h3 _ ha m ?_ h0
        split
        · exact cnt_step hm
        · exact hm
      · have := sat_pos (b := 2199023255552) (by omega) (kids_pos hs)
        omega
    · rename_i e
      refine h3 j hj c ?_
      by_cases h : j < i
      · rw [if_pos h]; rwa [if_pos (by omega)] at hc
      · rw [if_neg h]; rwa [if_neg (by omega)] at hc
theorem tinv_pass {l : List (List I3)} {f : Nat} {ds : List Int} (h : TInv l f l.length ds) : TInv l (f + 1) 0 ds :=
  ⟨h.1, h.2.1, fun j hj c hc => h.2.2 j hj c (by rw [if_pos hj]; rwa [if_neg (by omega)] at hc)⟩
theorem tinv_zero (l : List (List I3)) : TInv l 0 0 (List.replicate l.length 0) :=
  ⟨by simp, known_zero _ _ _, fun j hj c hc => by rw [if_neg (by omega)] at hc; cases hc⟩

/-- What the whole table knows. -/
def TDone (l : List (List I3)) (ds : List Int) : Prop := ds.length = l.length ∧ ∀ j, j < l.length → (tot l j = none ∧ nth ds j = 0) ∨ ∃ c, tot l j = some c ∧ nth ds j = ((satN 2199023255552 c : Nat) : Int)
theorem tinv_done {l : List (List I3)} (hok : okL l) {ds : List Int} (h : TInv l l.length 0 ds) : TDone l ds := by
  refine ⟨h.1, fun j hj => ?_⟩
  cases ht : tot l j with
  | none =>
    left
    refine ⟨rfl, ?_⟩
    rcases h.2.1 j hj with h | ⟨f, c, hc, _⟩
    · exact h
    · have := cnt_fin (okL_closed hok) hj hc
      unfold tot at ht
      rw [ht] at this
      cases this
  | some c =>
    right
    refine ⟨c, rfl, ?_⟩
    have hn := h.2.2 j hj c (by rw [if_neg (by omega)]; exact ht)
    rcases h.2.1 j hj with h | ⟨f, c', hc, h⟩
    · exact absurd h hn
    · rw [h, cnt_same hc ht]

/-- The relations of the loops. -/
def T1Rel (n : Nat) (w : World) (u t : Value) (wr : World) : Prop := ∃ k : Nat, k ≤ n ∧ t = .int .i64 k ∧ ∃ A c, u = .slice A k c ∧ OwnI 2 wr w.heap.size A c (List.replicate k 0) ∧ Below w.heap.size w wr
def T2Rel (l : List (List I3)) (g c n : Nat) (w : World) (t : Value) (wr : World) : Prop := ∃ f : Nat, f ≤ n ∧ t = .int .i64 f ∧ ∃ ds, TInv l f 0 ds ∧ OwnI 2 wr w.heap.size (some ⟨g, 0, none⟩) c ds ∧ Below w.heap.size w wr
def T3Rel (l : List (List I3)) (f g c n : Nat) (w : World) (t : Value) (wr : World) : Prop := ∃ i : Nat, i ≤ n ∧ t = .int .i64 i ∧ ∃ ds, TInv l f i ds ∧ OwnI 2 wr w.heap.size (some ⟨g, 0, none⟩) c ds ∧ Below w.heap.size w wr
def T4Rel (l : List (List I3)) (ds : List Int) (p : List I3) (m : Nat) (w : World) (u t : Value) (wr : World) : Prop := ∃ k : Nat, k ≤ m ∧ t = .int .i64 k ∧ ∃ x, TSum l ds p k x ∧ u = .int .i64 x ∧ Below w.heap.size w wr

/-- A table is handed back. -/
def TableAns (l : List (List I3)) (w : World) (e : Ending) (w' : World) : Prop := ∃ g c ds, e = .returned (.slice (some ⟨g, 0, none⟩) l.length c) ∧ TDone l ds ∧ OwnI 2 w' w.heap.size (some ⟨g, 0, none⟩) c ds ∧ Below w.heap.size w w'

set_option maxHeartbeats 4000000 in
theorem table_any (L : Option Addr) (N cL : Nat) (l : List (List I3)) (w : World) (hL : Prgs w L N l) (hok : okL l) :
    Calls Try.prog 31 #[.slice L N cL] w (TableAns l w) := by
  have HL := Lib.hid hL
  have HN := Lib.hid hL.1
  have HOK := Lib.hid hok
  have hN : N ≤ 16 := by have := hok.2.1; rw [hL.1] at this; exact this
  have hN1 : 1 ≤ N := by have := hok.1; rw [hL.1] at this; exact this
  clear hL hok
  go_enter Try.func31, Try.ntmps31
  go_wp2
  go_loopw [3, 10] (fun u t wr => T1Rel N w u t wr) (fun _ t _ => N - (intOf t).toNat)
  case atStart => exact ⟨0, Nat.zero_le _, rfl, none, 0, rfl, OwnI.nil_ _ _ _, Below.refl _ _⟩
  case round =>
    obtain ⟨k, hk, rfl, A, c, rfl, hown, hb⟩ := hrel
    have HO := Lib.hid hown
    have HB := Lib.hid hb
    clear hown hb
    by_cases hlt : k < N
    · have HB1 := Lib.hid (HB.out.alloc HB.out.size (.cells #[.int .i64 0] 2))
      have HO1 := Lib.hid (HO.out.below ((Below.refl wr.heap.size wr).alloc (Nat.le_refl _) (.cells #[.int .i64 0] 2)))
      go_wp2_with (first
        | (at_builtin; refine wpList_append_ints _ rfl _ _ 50 rfl 2 Try.underlying50 Try.intsInfo w.heap.size A c (List.replicate k 0) k (by simp) rfl HO1.out (some ⟨wr.heap.size, 0, none⟩) 1 1 [0] rfl (ints1 wr 2 fit0) (by simp; omega) HB1.out.size ?_
           intro A' c' w1 hown1 hg1
           have HO2 := Lib.hid hown1
           have HB2 := Lib.hid (HB1.out.grown hg1 HB1.out.size HO1.out.block)
           clear hown1 hg1))
      go_roundw
      case rel => exact ⟨k + 1, by omega, by go_num, A', c', by simp, by rw [List.replicate_succ']; exact HO2.out, HB2.out⟩
      case measure => simp [intOf]; omega
    · obtain rfl : k = N := by omega
      obtain ⟨g, rfl, hg1, hg2, -, -⟩ := HO.out.form (by simp; omega)
      clear hlt hk
      go_wp2
      go_loopw [18] (fun t wr => T2Rel l g c k w t wr) (fun t _ => k - (intOf t).toNat)
      case atStart => exact ⟨0, Nat.zero_le _, rfl, List.replicate k 0, by have := tinv_zero l; rwa [HN.out] at this, HO.out, HB.out⟩
      case round =>
        rename World => w2
        obtain ⟨f, hf, rfl, ds, hinv, hown, hb⟩ := hrel
        have HI2 := Lib.hid hinv
        have HO2 := Lib.hid hown
        have HB2 := Lib.hid hb
        clear hinv hown hb
        by_cases hlt2 : f < k
        · go_wp2
          go_loopw [22] (fun t wr => T3Rel l f g c k w t wr) (fun t _ => k - (intOf t).toNat)
          case atStart => exact ⟨0, Nat.zero_le _, rfl, ds, HI2.out, HO2.out, HB2.out⟩
          case round =>
            rename World => w3
            obtain ⟨i, hi, rfl, es, hinv, hown, hb⟩ := hrel
            have HI3 := Lib.hid hinv
            have HO3 := Lib.hid hown
            have HB3 := Lib.hid hb
            clear hinv hown hb
            by_cases hlt3 : i < k
            · have HIL : Hid (i < l.length) := Lib.hid (by rw [HN.out]; exact hlt3)
              obtain ⟨b0, o0, D, m0, d0, rfl, hbl0, g00, hr⟩ := (HL.out.below HB3.out).at_ hlt3
              have HR := Lib.hid hr
              have HPL := Lib.hid hr.1
              have hm0 := Nat.le_trans hr.2.1.1 hr.2.1.2
              have HRL := Lib.hid (runLen_le (pth l i))
              clear hr
              go_wp2_with fail
              refine (run_any D m0 d0 _ _ HR.out).mono ?_
              rintro e w4 ⟨rfl, hb4⟩
              have HO4 := Lib.hid (HO3.out.below hb4)
              have HR4 := Lib.hid (HR.out.below hb4)
              have HB4 := Lib.hid (below3 HB3.out hb4)
              clear hb4
              generalize hm : runLen (pth l i) = m
              have HMM := Lib.hid hm
              have hmm0 : m ≤ m0 := by rw [← hm, ← HPL.out]; exact HRL.out
              clear hm
              go_wp2
              go_loopw [5, 31] (fun u t wr => T4Rel l es (pth l i) m w4 u t wr) (fun _ t _ => m - (intOf t).toNat)
              case atStart => exact ⟨0, Nat.zero_le _, rfl, 1, .inr ⟨0, 1, rfl, rfl⟩, rfl, Below.refl _ _⟩
              case round =>
                rename World => w5
                obtain ⟨j, hj, rfl, x, hts, rfl, hb5⟩ := hrel
                have HTS := Lib.hid hts
                have HB5 := Lib.hid hb5
                have HB6 := Lib.hid (below3 HB4.out hb5)
                have hxb := tsum_bound hts
                obtain ⟨hx0, hx1⟩ := hxb
                clear hts hb5
                by_cases hlt4 : j < m
                · obtain ⟨b, o, rfl, hbl, g0, g1, g2⟩ := (HR4.out.below HB5.out).at_ (j := j) (by omega)
                  have HB7 := fun X => Lib.hid (HB5.out.alloc HB5.out.size X)
                  by_cases ho : jO (pth l i) j = 2
                  · have ho1 : (jO (pth l i) j == 2) = true := by simpa using ho
                    have HOJ := Lib.hid ho
                    by_cases hxp : 0 < x
                    · have hci := okL_closed HOK.out i HIL.out j (by rw [HMM.out]; exact hlt4) ho
                      rw [HN.out] at hci
                      have hja := (may_bound (((HOK.out.2.2 i HIL.out).1).2.2 j (by rw [HPL.out]; omega))).2.2.1
                      obtain ⟨a, ha⟩ : ∃ a : Nat, jA (pth l i) j = (a : Int) := ⟨(jA (pth l i) j).toNat, by unfold jA; omega⟩
                      rw [ha] at g1 hci
                      have hci : a < k := hci
                      have HA := Lib.hid ha
                      have hkn := HI3.out.2.1 a (by rw [HN.out]; exact hci)
                      have hkb := known_nonneg hkn
                      obtain ⟨hk0, hk1⟩ := hkb
                      have HKN := Lib.hid hkn
                      have cr := ((HO4.out.below ((HB7 (.cells #[.int .i64 (jO (pth l i) j), .int .i64 (a : Int), .int .i64 (jB (pth l i) j)] 42)).out)).at_ (j := a) (by rw [HI3.out.1, HN.out]; exact hci)).1
                      clear ho hja ha hkn
                      by_cases hz : nth es a = 0
                      · have HTN : Hid (TSum l es (pth l i) (j + 1) 0) := Lib.hid (tsum_zero HOJ.out (by rw [HA.out]; exact hz))
                        have hz1 : (nth es a == 0) = true := by simpa using hz
                        clear hz
                        go_wp2
                        go_roundw
                        case rel => exact ⟨j + 1, by omega, by go_num, _, HTN.out, rfl, (HB7 _).out⟩
                        case measure => simp [intOf]; omega
                      · have HTN : Hid (TSum l es (pth l i) (j + 1) (min (x + nth es a) 2199023255552)) := Lib.hid (by
                          have := tsum_add HTS.out hxp HOJ.out (by rw [HA.out]; exact HKN.out) (by rw [HA.out]; exact hz)
                          rw [HA.out] at this
                          exact this)
                        have hz1 : (nth es a == 0) = false := by simpa using hz
                        clear hz
                        go_wp2
                        go_roundw
                        case rel => exact ⟨j + 1, by omega, by go_num, _, HTN.out, rfl, (HB7 _).out⟩
                        case measure => simp [intOf]; omega
                    · have HTN : Hid (TSum l es (pth l i) (j + 1) 0) := Lib.hid (tsum_stays HTS.out hxp)
                      obtain rfl : x = 0 := by omega
                      clear ho
                      go_wp2
                      go_roundw
                      case rel => exact ⟨j + 1, by omega, by go_num, _, HTN.out, rfl, (HB7 _).out⟩
                      case measure => simp [intOf]; omega
                  · have ho1 : (jO (pth l i) j == 2) = false := by simpa using ho
                    have HTN := Lib.hid (tsum_other HTS.out ho)
                    clear ho
                    go_wp2
                    go_roundw
                    case rel => exact ⟨j + 1, by omega, by go_num, _, HTN.out, rfl, (HB7 _).out⟩
                    case measure => simp [intOf]; omega
                · obtain rfl : j = m := by omega
                  have HIN : Hid (TInv l f (i + 1) (es.set i x)) := Lib.hid (tinv_set HOK.out HIL.out HI3.out (by rw [HMM.out]; exact HTS.out))
                  have HO7 := Lib.hid (HO4.out.below HB5.out)
                  obtain ⟨cr1, cr2⟩ := HO7.out.at_ (j := i) (by rw [HI3.out.1]; exact HIL.out)
                  have HO8 := Lib.hid (HO7.out.set_ i (x := x) (by unfold Fit; omega))
                  have HB8 := Lib.hid (HB6.out.setCell (p := ⟨g, i, none⟩) hg1 (.int .i64 x))
                  go_wp2
                  go_roundw
                  case rel => exact ⟨i + 1, by omega, by go_num, _, HIN.out, HO8.out, HB8.out⟩
                  case measure => simp [intOf]; omega
            · obtain rfl : i = k := by omega
              have HIN : Hid (TInv l (f + 1) 0 es) := Lib.hid (tinv_pass (by rw [HN.out]; exact HI3.out))
              go_wp2
              go_roundw
              case rel => exact ⟨f + 1, by omega, by go_num, _, HIN.out, HO3.out, HB3.out⟩
              case measure => simp [intOf]; omega
        · obtain rfl : f = k := by omega
          have HDN := Lib.hid (tinv_done HOK.out (by rw [HN.out]; exact HI2.out))
          go_wp2
          go_ret
          exact ⟨g, c, ds, by rw [HN.out]; rfl, HDN.out, HO2.out, HB2.out⟩

set_option maxHeartbeats 2000000 in
theorem rtasks_any (L : Option Addr) (N cL : Nat) (l : List (List I3)) (i : Int) (w : World) (hL : Prgs w L N l) :
    Calls Try.prog 17 #[.slice L N cL, .int .i64 i] w (Ret2 (tasksA l i) w) := by
  have HL := Lib.hid hL
  have HN := Lib.hid hL.1
  have hn := hL.2.1
  clear hL
  by_cases hok : okL l
  · have HOK := Lib.hid hok
    have HE := Lib.hid (errL_ok hok)
    have hN : N ≤ 16 := by have := hok.2.1; rw [HN.out] at this; exact this
    clear hok
    by_cases hi : 0 ≤ i ∧ i < N
    · obtain ⟨hi0, hi1⟩ := hi
      obtain ⟨k, rfl⟩ : ∃ k : Nat, i = (k : Int) := ⟨i.toNat, by omega⟩
      have hk : k < N := by omega
      clear hi0 hi1
      go_enter Try.func17, Try.ntmps17
      go_wp2_with fail
      refine (rcheckAll_any L N cL l _ HL.out).mono ?_
      rintro e w1 ⟨rfl, hb1⟩
      rw [HE.out]
      have HB1 := Lib.hid hb1
      clear hb1
      go_wp2_with fail
      refine (table_any L N cL l _ (HL.out.below HB1.out) HOK.out).mono ?_
      rintro e w2 ⟨g, c, ds, rfl, hdn, hown, hb2⟩
      have HB2 := Lib.hid (below3 HB1.out hb2)
      have cr := (hown.at_ (j := k) (by rw [hdn.1, HN.out]; exact hk)).1
      rw [HN.out]
      have hkl : k < l.length := by rw [HN.out]; exact hk
      rcases hdn.2 k hkl with ⟨ht, hx⟩ | ⟨q, ht, hx⟩
      · rw [hx] at cr
        have HA := Lib.hid (tasksA_none HOK.out hkl ht)
        clear hdn hown hb2 ht hx hkl
        go_wp2
        go_ret2
        exact Ret2.of HA.out rfl HB2.out
      · rw [hx] at cr
        have hq1 := cnt_pos ht
        rcases Nat.lt_or_ge 1099511627776 q with hbig | hbig
        · have HA := Lib.hid (tasksA_large HOK.out hkl ht hbig)
          have hs1 : 1099511627776 < ((satN 2199023255552 q : Nat) : Int) := by unfold satN; omega
          generalize ((satN 2199023255552 q : Nat) : Int) = y at cr hs1
          have hs2 : (y == 0) = false := by simp; omega
          clear hdn hown hb2 ht hx hkl
          go_wp2
          go_ret2
          exact Ret2.of HA.out rfl HB2.out
        · have HA := Lib.hid (tasksA_ok HOK.out hkl ht hbig)
          have hs1 : ((satN 2199023255552 q : Nat) : Int) = (q : Int) := by unfold satN; omega
          rw [hs1] at cr
          have hs2 : ((q : Int) == 0) = false := by simp; omega
          have hs3 : (q : Int) ≤ 1099511627776 := by omega
          clear hdn hown hb2 ht hx hkl hs1
          go_wp2
          go_ret2
          exact Ret2.of HA.out rfl HB2.out
    · have HA := Lib.hid (tasksA_out (l := l) (i := i) (by rw [HN.out]; exact hi))
      by_cases hneg : i < 0
      · clear hi
        go_enter Try.func17, Try.ntmps17
        go_wp2_with fail
        refine (rcheckAll_any L N cL l _ HL.out).mono ?_
        rintro e w1 ⟨rfl, hb1⟩
        rw [HE.out]
        have HB1 := Lib.hid hb1
        clear hb1
        go_wp2
        go_ret2
        exact Ret2.of HA.out rfl HB1.out
      · have hbig : (N : Int) ≤ i := by omega
        clear hi
        go_enter Try.func17, Try.ntmps17
        go_wp2_with fail
        refine (rcheckAll_any L N cL l _ HL.out).mono ?_
        rintro e w1 ⟨rfl, hb1⟩
        rw [HE.out]
        have HB1 := Lib.hid hb1
        clear hb1
        go_wp2
        go_ret2
        exact Ret2.of HA.out rfl HB1.out
  · have HE := Lib.hid (errL_no hok)
    have HA := Lib.hid (tasksA_no (i := i) hok)
    clear hok
    go_enter Try.func17, Try.ntmps17
    go_wp2_with fail
    refine (rcheckAll_any L N cL l _ HL.out).mono ?_
    rintro e w1 ⟨rfl, hb1⟩
    rw [HE.out]
    have HB1 := Lib.hid hb1
    clear hb1
    go_wp2
    go_ret2
    exact Ret2.of HA.out rfl HB1.out

end Go.Proofs.Ytcbgmhbmdklbfaa

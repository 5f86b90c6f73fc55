/-
  Layer 10: what semaphores are in memory; the document's Check, and both Sames.
-/
import Derived.Test.YtokmogfnliccjaaSa
namespace Go.Proofs.Ytokmogfnliccjaa
open Go.RowKit

/-- The first k that wait may wait. -/
def OkTo (l : List Int) (k : Nat) : Prop := ∀ i, i < k → 0 ≤ nth l i ∧ nth l i ∉ l.take i
/-- A semaphore may be. -/
def semOk (z : Int) (l : List Int) : Prop := 0 ≤ z ∧ z ≤ 1000 ∧ l.length ≤ 256 ∧ (z ≤ 0 ∨ l.length = 0) ∧ OkTo l l.length
noncomputable instance (z : Int) (l : List Int) : Decidable (semOk z l) := Classical.propDecidable _

/-- A semaphore as a value: a number, and a slice that reads as a list. -/
structure SemW (w : World) (z : Int) (A : Option Addr) (n c : Nat) (l : List Int) : Prop where
  f : Fit z
  x : Ints w A n l
  c : n ≤ c ∧ c ≤ 9223372036854775807
theorem SemW.below {w w' : World} {z : Int} {A : Option Addr} {n c : Nat} {l : List Int} (h : SemW w z A n c l) (hb : Below w.heap.size w w') : SemW w' z A n c l := ⟨h.f, h.x.below hb, h.c⟩
theorem SemW.own {E : TypeId} {w : World} {base : Nat} {z : Int} {A : Option Addr} {n c : Nat} {l : List Int} (h : OwnI E w base A c l) (hz : Fit z) (hn : l.length = n) : SemW w z A n c l := by
  subst hn
  exact ⟨hz, h.ints, h.cap⟩
theorem Ints.take_ {w : World} {A : Option Addr} {n : Nat} {zs : List Int} (h : Ints w A n zs) {k : Nat} (hk : k ≤ n) : Ints w A k (zs.take k) := by
  obtain ⟨h1, h2, h3, h4⟩ := h
  refine ⟨by rw [List.length_take]; omega, by omega, fun z hz => h3 z (List.mem_of_mem_take hz), fun hn => ?_⟩
  obtain ⟨b, o, e, hb, hc⟩ := h4 (by omega)
  refine ⟨b, o, e, hb, fun j hj => ?_⟩
  rw [hc j (by omega), nth_get (by omega), nth_get (by rw [List.length_take]; omega), List.getElem_take]

def sameSm (z z' : Int) (l l' : List Int) : Bool := decide (z = z') && sameB l l'
theorem sameSm_refl (z : Int) (l : List Int) : sameSm z z l l = true := by simp [sameSm, sameB_refl]

set_option maxHeartbeats 1000000 in
theorem rsame_any (z z' : Int) (A A' : Option Addr) (n c n' c' : Nat) (l l' : List Int) (w : World) (h : SemW w z A n c l) (h' : SemW w z' A' n' c' l') :
    Calls Try.prog 17 #[.agg #[.int .i64 z, .slice A n c], .agg #[.int .i64 z', .slice A' n' c']] w (RetB (.bool (sameSm z z' l l')) w) := by
  obtain ⟨k1, k2, hb⟩ := lies2 w #[.int .i64 z, .slice A n c] #[.int .i64 z', .slice A' n' c'] 24 24
  have HP := Lib.hid (h.below hb)
  have HQ := Lib.hid (h'.below hb)
  have a0 := k1.c0
  have a1 := k1.c1
  have b0 := k2.c0
  have b1 := k2.c1
  have HB := Lib.hid hb
  clear h h' hb k1 k2
  by_cases he : z = z'
  · have t0 : (z == z') = true := by simpa using he
    have HE := Lib.hid (show sameSm z z' l l' = sameB l l' by unfold sameSm; rw [decide_eq_true he]; rfl)
    clear he
    go_enter Try.func17, Try.ntmps17
    go_wp2_with fail
    refine (rsame01_any A A' n c n' c' l l' _ HP.out.x HQ.out.x).mono ?_
    rintro e w1 ⟨rfl, b⟩
    have HB1 := Lib.hid (below3 HB.out b)
    clear b a0 a1 b0 b1
    go_wp2
    go_ret
    rw [HE.out]
    exact RetB.of rfl HB1.out
  · have t0 : (z == z') = false := by simpa using he
    have HE := Lib.hid (show sameSm z z' l l' = false by unfold sameSm; rw [decide_eq_false he]; rfl)
    clear he
    go_enter Try.func17, Try.ntmps17
    go_wp2_with fail
    go_ret
    rw [HE.out]
    exact RetB.of rfl HB.out

set_option maxHeartbeats 1000000 in
theorem psame_any (z z' : Int) (A A' : Option Addr) (n c n' c' : Nat) (l l' : List Int) (w : World) (h : SemW w z A n c l) (h' : SemW w z' A' n' c' l') :
    Calls Try.prog 20 #[.agg #[.int .i64 z, .slice A n c], .agg #[.int .i64 z', .slice A' n' c']] w (RetB (.bool (sameSm z z' l l')) w) := by
  obtain ⟨k1, k2, hb⟩ := lies2 w #[.int .i64 z, .slice A n c] #[.int .i64 z', .slice A' n' c'] 24 24
  have HP := Lib.hid (h.below hb)
  have HQ := Lib.hid (h'.below hb)
  have a0 := k1.c0
  have a1 := k1.c1
  have b0 := k2.c0
  have b1 := k2.c1
  have HB := Lib.hid hb
  clear h h' hb k1 k2
  by_cases he : z = z'
  · have t0 : (z == z') = true := by simpa using he
    have HE := Lib.hid (show sameSm z z' l l' = sameB l l' by unfold sameSm; rw [decide_eq_true he]; rfl)
    clear he
    go_enter Try.func20, Try.ntmps20
    go_wp2_with fail
    refine (equalI_any A A' n c n' c' l l' _ HP.out.x HQ.out.x).mono ?_
    rintro e w1 ⟨rfl, b⟩
    have HB1 := Lib.hid (below3 HB.out b)
    clear b a0 a1 b0 b1
    go_wp2
    go_ret
    rw [HE.out]
    exact RetB.of rfl HB1.out
  · have t0 : (z == z') = false := by simpa using he
    have HE := Lib.hid (show sameSm z z' l l' = false by unfold sameSm; rw [decide_eq_false he]; rfl)
    clear he
    go_enter Try.func20, Try.ntmps20
    go_wp2_with fail
    go_ret
    rw [HE.out]
    exact RetB.of rfl HB.out

set_option maxRecDepth 100000 in
set_option maxHeartbeats 4000000 in
theorem rcheck_any (z : Int) (A : Option Addr) (n c : Nat) (l : List Int) (w : World) (h : SemW w z A n c l) :
    Calls Try.prog 19 #[.agg #[.int .i64 z, .slice A n c]] w (RetB (.int .i64 (if semOk z l then 0 else 1)) w) := by
  have HX := Lib.hid (h.below ((Below.refl w.heap.size w).alloc (Nat.le_refl _) (.cells #[.int .i64 z, .slice A n c] 24)))
  have LX := Lib.hid h.x.1
  have hnc := h.c
  obtain ⟨r, hr⟩ : ∃ r : Int, (if semOk z l then (0 : Int) else 1) = r := ⟨_, rfl⟩
  rw [hr]
  have HR := Lib.hid hr
  clear hr h
  have k0 := Bk.new w 24 #[.int .i64 z, .slice A n c]
  have b0 := (Below.refl w.heap.size w).alloc (Nat.le_refl _) (.cells #[.int .i64 z, .slice A n c] 24)
  obtain ⟨g, hg⟩ : ∃ g, w.heap.size = g := ⟨_, rfl⟩
  obtain ⟨V, hV⟩ : ∃ V, w.alloc (.cells #[.int .i64 z, .slice A n c] 24) = V := ⟨_, rfl⟩
  rw [hV] at k0 b0 HX
  rw [hg] at k0
  have HV := Lib.hid hV
  have HG := Lib.hid hg
  have KV := Lib.hid k0
  have BV := Lib.hid b0
  have q0 := k0.c0
  have q1 := k0.c1
  have lq := k0.lt
  clear hV hg k0 b0
  by_cases h0 : z < 0
  · have t0 : decide (z < 0) = true := decide_eq_true h0
    have HNO : Hid (¬ semOk z l) := Lib.hid (fun q => by have := q.1; omega)
    clear h0
    go_enter Try.func19, Try.ntmps19
    go_upto_region 1 with fail
    rw [HV.out]
    try rw [HG.out]
    clear HV HG
    go_wp2_with fail
    go_ret
    exact ⟨by rw [← HR.out, if_neg HNO.out]; rfl, BV.out⟩
  · have t0 : decide (z < 0) = false := decide_eq_false h0
    by_cases h1 : 1000 < z
    · have t1 : decide (1000 < z) = true := decide_eq_true h1
      have HNO : Hid (¬ semOk z l) := Lib.hid (fun q => by have := q.2.1; omega)
      clear h0 h1
      go_enter Try.func19, Try.ntmps19
      go_upto_region 1 with fail
      rw [HV.out]
      try rw [HG.out]
      clear HV HG
      go_wp2_with fail
      go_ret
      exact ⟨by rw [← HR.out, if_neg HNO.out]; rfl, BV.out⟩
    · have t1 : decide (1000 < z) = false := decide_eq_false h1
      by_cases h2 : 256 < n
      · have HNO : Hid (¬ semOk z l) := Lib.hid (fun q => by have := q.2.2.1; have := LX.out; omega)
        clear h0 h1
        go_enter Try.func19, Try.ntmps19
        go_upto_region 1 with fail
        rw [HV.out]
        try rw [HG.out]
        clear HV HG
        go_wp2_with fail
        go_ret
        exact ⟨by rw [← HR.out, if_neg HNO.out]; rfl, BV.out⟩
      · by_cases h3 : 0 < z
        · have t3 : decide (0 < z) = true := decide_eq_true h3
          by_cases h4 : 0 < n
          · have HNO : Hid (¬ semOk z l) := Lib.hid (fun q => by have := q.2.2.2.1; have := LX.out; omega)
            clear h0 h1 h3
            go_enter Try.func19, Try.ntmps19
            go_upto_region 1 with fail
            rw [HV.out]
            try rw [HG.out]
            clear HV HG
            go_wp2_with fail
            go_ret
            exact ⟨by rw [← HR.out, if_neg HNO.out]; rfl, BV.out⟩
          · have HZ : Hid (0 ≤ z ∧ z ≤ 1000 ∧ l.length ≤ 256 ∧ (z ≤ 0 ∨ l.length = 0)) := Lib.hid ⟨by omega, by omega, by have := LX.out; omega, by have := LX.out; omega⟩
            clear h0 h1 h3
            go_enter Try.func19, Try.ntmps19
            go_upto_region 1 with fail
            rw [HV.out]
            try rw [HG.out]
            clear HV HG
            go_wp2_with fail
            clear q0 q1 lq
            go_loopw [33] (fun t wr => ∃ k : Nat, k ≤ n ∧ t = .int .i64 k ∧ Hid (OkTo l k) ∧ Hid (Below V.heap.size V wr)) (fun t _ => n - (intOf t).toNat)
            case atStart => exact ⟨0, Nat.zero_le _, rfl, Lib.hid (fun i hi => absurd hi (Nat.not_lt_zero _)), Lib.hid (Below.refl _ _)⟩
            case round =>
              rename World => wr
              obtain ⟨k, hk, rfl, OKK, BW⟩ := hrel
              by_cases hkn : k < n
              · exact absurd hkn (by omega)
              · obtain rfl : n = k := by omega
                have HOK := Lib.hid (show semOk z l from ⟨HZ.out.1, HZ.out.2.1, HZ.out.2.2.1, HZ.out.2.2.2, by rw [LX.out]; exact OKK.out⟩)
                have HB := Lib.hid (below3 BV.out BW.out)
                clear BW OKK
                go_wp2_with fail
                go_ret
                exact ⟨by rw [← HR.out, if_pos HOK.out]; rfl, HB.out⟩
        · have t3 : decide (0 < z) = false := decide_eq_false h3
          have HZ : Hid (0 ≤ z ∧ z ≤ 1000 ∧ l.length ≤ 256 ∧ (z ≤ 0 ∨ l.length = 0)) := Lib.hid ⟨by omega, by omega, by have := LX.out; omega, by have := LX.out; omega⟩
          clear h0 h1 h3
          go_enter Try.func19, Try.ntmps19
          go_upto_region 1 with fail
          rw [HV.out]
          try rw [HG.out]
          clear HV HG
          go_wp2_with fail
          clear q0 q1 lq
          go_loopw [33] (fun t wr => ∃ k : Nat, k ≤ n ∧ t = .int .i64 k ∧ Hid (OkTo l k) ∧ Hid (Below V.heap.size V wr)) (fun t _ => n - (intOf t).toNat)
          case atStart => exact ⟨0, Nat.zero_le _, rfl, Lib.hid (fun i hi => absurd hi (Nat.not_lt_zero _)), Lib.hid (Below.refl _ _)⟩
          case round =>
            rename World => wr
            obtain ⟨k, hk, rfl, OKK, BW⟩ := hrel
            by_cases hkn : k < n
            · have HXW := Lib.hid (HX.out.x.below BW.out)
              obtain ⟨b, o, rfl, hb, hc⟩ := HXW.out.at_ hkn
              have hkl : k < l.length := by rw [LX.out]; exact hkn
              have kb := KV.out.below BW.out KV.out.lt
              have q1 := kb.c1
              have lq := kb.lt
              have T0 := Lib.hid (HXW.out.take_ hk)
              have hstep : 0 ≤ nth l k ∧ nth l k ∉ l.take k → OkTo l (k + 1) := fun q i hi => by
                by_cases e : i = k
                · subst e; exact q
                · exact OKK.out i (by omega)
              have hbad : ¬ (0 ≤ nth l k ∧ nth l k ∉ l.take k) → ¬ semOk z l := fun q h => q (h.2.2.2.2 k hkl)
              obtain ⟨y, hy⟩ : ∃ y, nth l k = y := ⟨_, rfl⟩
              rw [hy] at hc hstep hbad
              clear hy kb
              by_cases h0 : y < 0
              · have t0 : decide (y < 0) = true := decide_eq_true h0
                have HNO := Lib.hid (hbad (fun q => by omega))
                have HB := Lib.hid (below3 BV.out BW.out)
                clear h0 hstep hbad OKK BW T0
                go_wp2_with fail
                go_ret
                exact ⟨by rw [← HR.out, if_neg HNO.out]; rfl, HB.out⟩
              · have t0 : decide (y < 0) = false := decide_eq_false h0
                obtain ⟨ts, hts⟩ : ∃ ts, l.take k = ts := ⟨_, rfl⟩
                rw [hts] at T0 hstep hbad
                clear hts
                by_cases hm : y ∈ ts
                · have HM := Lib.hid (hasB_yes hm)
                  have HNO := Lib.hid (hbad (fun q => q.2 hm))
                  clear h0 hstep hbad hm OKK
                  go_wp2_with fail
                  refine (rhas_any (some ⟨b, o, none⟩) k c ts y _ T0.out).mono ?_
                  rw [HM.out]
                  rintro e w2 ⟨rfl, b2⟩
                  have HB := Lib.hid (below3 (below3 BV.out BW.out) b2)
                  clear b2 BW T0 hb hc q1 lq
                  go_wp2_with fail
                  go_ret
                  exact ⟨by rw [← HR.out, if_neg HNO.out]; rfl, HB.out⟩
                · have HM := Lib.hid (hasB_no hm)
                  have OKN := Lib.hid (hstep ⟨by omega, hm⟩)
                  clear h0 hstep hbad hm OKK
                  go_wp2_with fail
                  refine (rhas_any (some ⟨b, o, none⟩) k c ts y _ T0.out).mono ?_
                  rw [HM.out]
                  rintro e w2 ⟨rfl, b2⟩
                  have HB := Lib.hid (below3 BW.out b2)
                  clear b2 BW T0 hb hc q1 lq
                  go_wp2_with fail
                  go_roundw
                  case rel => exact ⟨k + 1, by omega, by go_num, OKN, HB⟩
                  case measure => simp [intOf]; omega
            · obtain rfl : n = k := by omega
              have HOK := Lib.hid (show semOk z l from ⟨HZ.out.1, HZ.out.2.1, HZ.out.2.2.1, HZ.out.2.2.2, by rw [LX.out]; exact OKK.out⟩)
              have HB := Lib.hid (below3 BV.out BW.out)
              clear BW OKK
              go_wp2_with fail
              go_ret
              exact ⟨by rw [← HR.out, if_pos HOK.out]; rfl, HB.out⟩

end Go.Proofs.Ytokmogfnliccjaa

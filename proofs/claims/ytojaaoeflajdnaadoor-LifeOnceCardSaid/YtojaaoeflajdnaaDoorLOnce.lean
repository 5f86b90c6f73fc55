/-
  The walk of the law LifeOnce of layer 12.
-/
import Derived.Test.YtojaaoeflajdnaaDoorTkf
import Derived.Test.YtojaaoeflajdnaaDoorTkj
namespace Go.Proofs.YtojaaoeflajdnaaDoor
open Go.RowKit

/-- The states of a task so far, s the last one. -/
def Chn (xs : List Int) (s : Int) : Prop := 0 < xs.length ∧ nth xs 0 = 1 ∧ IsAt xs xs.length ∧ allB xs = true ∧ nth xs (xs.length - 1) = s
section
variable {xs : List Int} {s u : Int}
theorem chn_one : Chn [1] 1 := ⟨by decide, rfl, ⟨Nat.le_refl _, Nat.le_refl _, fun i hi => absurd hi (by simp), fun h => absurd h (by simp)⟩, by decide, rfl⟩
theorem Chn.st (h : Chn xs s) : stB s = true := by rw [← h.2.2.2.2]; exact allB_iff.1 h.2.2.2.1 _ (by have := h.1; omega)
theorem leg_st (h : legB s u = true) : stB u = true := by
  unfold legB at h
  simp only [Bool.and_eq_true] at h
  exact h.1.2
theorem Chn.more (h : Chn xs s) (hl : legB s u = true) : Chn (xs ++ [u]) u := by
  obtain ⟨h0, h1, hi, hA, hs⟩ := h
  refine ⟨by simp, by rw [nth_snoc_ h0]; exact h1, ⟨by simp, Nat.le_refl _, fun i q => ?_, fun q => absurd q (Nat.lt_irrefl _)⟩, allB_snoc hA (leg_st hl), by rw [List.length_append, List.length_singleton, Nat.add_sub_cancel]; exact nth_snoc_last⟩
  rw [List.length_append, List.length_singleton] at q
  by_cases e : i + 1 < xs.length
  · rw [nth_snoc_ (by omega), nth_snoc_ e]; exact hi.2.2.1 i e
  · obtain rfl : i = xs.length - 1 := by omega
    rw [nth_snoc_ (by omega), hs, show xs.length - 1 + 1 = xs.length by omega, nth_snoc_last]; exact hl
theorem Chn.trace (h : Chn xs s) : traceR xs = ((xs.length : Int), 0) := traceR_3 (by have := h.1; omega) h.2.2.2.1 h.2.1 h.2.2.1
theorem leg_over (h : legB s u = true) : (s == 7) = false := by
  have hb := legB_plain s u
  rw [h] at hb
  by_cases e : s = 7
  · subst e
    exfalso
    revert hb
    split
    · split
      · simp
      split
      · decide
      split
      · decide
      · decide
    · simp
  · simpa using e
theorem leg_run (h : legB s 2 = true) : s = 1 := by
  have hb := legB_plain s 2
  rw [h] at hb
  split at hb
  · simpa using hb.symm
  · cases hb
theorem leg_wait (h : legB s u = true) (hw : wtB s = true) : u = 1 ∨ u = 7 := by
  have hb := legB_plain s u
  rw [h] at hb
  have hw2 : 3 ≤ s ∧ s ≤ 6 := by simpa [wtB] using hw
  split at hb
  · split at hb
    · exact .inr (by assumption)
    split at hb
    · have : s = 1 := by simpa using hb.symm
      omega
    split at hb
    · exact .inl (by assumption)
    · have : s = 2 := by simpa using hb.symm
      omega
  · cases hb
end
theorem OwnI.one {E : TypeId} {base : Nat} (w : World) {x : Int} (hx : Fit x) (hb : base ≤ w.heap.size) : OwnI E (w.alloc (.cells #[.int .i64 x] E)) base (some ⟨w.heap.size, 0, none⟩) 1 [x] :=
  ⟨by simp, fun z hz => by rw [List.mem_singleton.1 hz]; exact hx, by simp, .inr ⟨w.heap.size, 1, #[.int .i64 x], rfl, hb, heap_alloc_new w _, Nat.le_refl _, by unfold maxLen; omega, rfl, by simp⟩⟩
theorem fit_st {s : Int} (h : stB s = true) : Fit s := by have := stB_iff.1 h; unfold Fit; omega

/-- What lies there between the rounds. -/
structure OnI (w wr : World) (g0 g1 gB : Nat) (id tn pg s : Int) (A : Option Addr) (c : Nat) (xs : List Int) : Prop where
  t : Bk wr g0 24 #[.int .i64 id, .int .i64 tn, .int .i64 pg, .int .i64 0, .int .i64 0, .int .i64 (-1), .int .i64 (-1), .int .i64 (-1), .int .i64 (-1), .int .i64 s, .int .i64 0]
  f : Bk wr g1 24 #[.int .i64 id, .int .i64 tn, .int .i64 pg, .int .i64 0, .int .i64 0, .int .i64 (-1), .int .i64 (-1), .int .i64 (-1), .int .i64 (-1), .int .i64 1, .int .i64 0]
  l : OwnI 3 wr gB A c xs
  b : Below w.heap.size w wr
  fol : Fol wr
  sz : gB ≤ wr.heap.size
  ch : Chn xs s
theorem OnI.below {w wr w' : World} {g0 g1 gB : Nat} {id tn pg s : Int} {A : Option Addr} {c : Nat} {xs : List Int} (h : OnI w wr g0 g1 gB id tn pg s A c xs) (hb : Below wr.heap.size wr w') : OnI w w' g0 g1 gB id tn pg s A c xs :=
  ⟨h.t.below hb h.t.lt, h.f.below hb h.f.lt, h.l.below hb, below3 h.b hb, h.fol.le hb, Nat.le_trans h.sz hb.size, h.ch⟩
theorem OwnI.far11 {E : TypeId} {w : World} {base g : Nat} {A : Option Addr} {c : Nat} {zs : List Int} (h : OwnI E w base A c zs) (hg : g < base) (v0 v1 v2 v3 v4 v5 v6 v7 v8 v9 v10 : Value) : OwnI E (set11 w g v0 v1 v2 v3 v4 v5 v6 v7 v8 v9 v10) base A c zs :=
  ((((((((((h.far (p := ⟨g, 0, none⟩) hg v0).far (p := ⟨g, 1, none⟩) hg v1).far (p := ⟨g, 2, none⟩) hg v2).far (p := ⟨g, 3, none⟩) hg v3).far (p := ⟨g, 4, none⟩) hg v4).far (p := ⟨g, 5, none⟩) hg v5).far (p := ⟨g, 6, none⟩) hg v6).far (p := ⟨g, 7, none⟩) hg v7).far (p := ⟨g, 8, none⟩) hg v8).far (p := ⟨g, 9, none⟩) hg v9).far (p := ⟨g, 10, none⟩) hg v10
theorem size_set11 (w : World) (g : Nat) (v0 v1 v2 v3 v4 v5 v6 v7 v8 v9 v10 : Value) : (set11 w g v0 v1 v2 v3 v4 v5 v6 v7 v8 v9 v10).heap.size = w.heap.size := by simp [set11, World.setCell]

set_option maxRecDepth 100000 in
set_option maxHeartbeats 8000000 in
theorem lonce_big (id tn pg : Int) (A : Option Addr) (n c : Nat) (l : List Int) (w : World) (hx : Ints w A n l) (hF : Fol w) (h2 : 200 < n) : Calls Tryd.prog 6 #[.int .i64 id, .int .i64 tn, .int .i64 pg, .slice A n c] w (TrueAns w) := by
  have hnm := hx.2.1
  have HF := Lib.hid hF
  have d2 : decide ((200 : Int) < (n : Int)) = true := decide_eq_true (by omega)
  clear hx hF h2
  go_enter Tryd.func6, Tryd.ntmps6
  go_wp2_with fail
  refine (live_any _ HF.out).mono ?_
  rintro e w1 ⟨rfl, b1⟩
  have BB := Lib.hid b1
  clear b1
  go_wp2_with fail
  go_ret
  exact ⟨rfl, BB.out⟩

set_option maxRecDepth 100000 in
set_option maxHeartbeats 8000000 in
theorem lonce_no (id tn pg : Int) (A : Option Addr) (n c : Nat) (l : List Int) (w : World) (hx : Ints w A n l) (hF : Fol w) (h2 : ¬ 200 < n) (hn : ¬ okT (newT id tn pg)) : Calls Tryd.prog 6 #[.int .i64 id, .int .i64 tn, .int .i64 pg, .slice A n c] w (TrueAns w) := by
  have hnm := hx.2.1
  have HF := Lib.hid hF
  have d2 : decide ((200 : Int) < (n : Int)) = false := decide_eq_false (by omega)
  have hr : newR id tn pg = (1, zT) := if_neg hn
  have S1 := Lib.hid (fun (W : World) => hr ▸ new_any id tn pg W)
  unfold tc zT at S1
  dsimp only at S1
  clear hx hF h2 hn hr
  go_enter Tryd.func6, Tryd.ntmps6
  go_wp2_with fail
  refine (live_any _ HF.out).mono ?_
  rintro e w1 ⟨rfl, b1⟩
  have BB := Lib.hid b1
  clear b1
  go_wp2_with fail
  refine (S1.out _).mono ?_
  rintro e U1 ⟨rfl, b⟩
  have HB := Lib.hid ((below3 BB.out b).alloc (below3 BB.out b).size (.cells #[.int .i64 0, .int .i64 0, .int .i64 0, .int .i64 0, .int .i64 0, .int .i64 0, .int .i64 0, .int .i64 0, .int .i64 0, .int .i64 0, .int .i64 0] 24))
  clear b
  go_wp2_with fail
  go_ret
  exact ⟨rfl, HB.out⟩

set_option maxRecDepth 100000 in
set_option maxHeartbeats 8000000 in
theorem lonce_go (id tn pg : Int) (A : Option Addr) (n c : Nat) (l : List Int) (w : World) (hx : Ints w A n l) (hF : Fol w) (h2 : ¬ 200 < n) (hn : okT (newT id tn pg)) : Calls Tryd.prog 6 #[.int .i64 id, .int .i64 tn, .int .i64 pg, .slice A n c] w (TrueAns w) := by
  have HX := Lib.hid hx
  have LX := Lib.hid hx.1
  have hnm := hx.2.1
  have HF := Lib.hid hF
  have HW0 := Lib.hid hF.1
  have d2 : decide ((200 : Int) < (n : Int)) = false := decide_eq_false (by omega)
  have HN2 : Hid (n ≤ 200) := Lib.hid (by omega)
  have hr : newR id tn pg = (0, newT id tn pg) := if_pos hn
  have S1 := Lib.hid (fun (W : World) => hr ▸ new_any id tn pg W)
  unfold tc newT at S1
  dsimp only at S1
  have HOK := Lib.hid hn
  clear hx hF h2 hn hr
  go_enter Tryd.func6, Tryd.ntmps6
  go_wp2_with fail
  refine (live_any _ HF.out).mono ?_
  rintro e w1 ⟨rfl, b1⟩
  replace HF := Lib.hid (HF.out.le b1)
  have BB := Lib.hid b1
  clear b1
  go_wp2_with fail
  refine (S1.out _).mono ?_
  rintro e U1 ⟨rfl, b⟩
  have k0 := Bk.new U1 24 #[.int .i64 id, .int .i64 tn, .int .i64 pg, .int .i64 0, .int .i64 0, .int .i64 (-1), .int .i64 (-1), .int .i64 (-1), .int .i64 (-1), .int .i64 1, .int .i64 0]
  have ba := (Below.refl U1.heap.size U1).alloc (Nat.le_refl _) (.cells #[.int .i64 id, .int .i64 tn, .int .i64 pg, .int .i64 0, .int .i64 0, .int .i64 (-1), .int .i64 (-1), .int .i64 (-1), .int .i64 (-1), .int .i64 1, .int .i64 0] 24)
  replace HF := Lib.hid ((HF.out.le b).le ba)
  have hb0 : w.heap.size ≤ U1.heap.size := (below3 BB.out b).size
  replace BB := Lib.hid (below3 (below3 BB.out b) ba)
  clear b ba
  have hg01 : U1.heap.size < (U1.alloc (.cells #[.int .i64 id, .int .i64 tn, .int .i64 pg, .int .i64 0, .int .i64 0, .int .i64 (-1), .int .i64 (-1), .int .i64 (-1), .int .i64 (-1), .int .i64 1, .int .i64 0] 24)).heap.size := by simp
  obtain ⟨g0, hg⟩ : ∃ g, U1.heap.size = g := ⟨_, rfl⟩
  obtain ⟨V1, hV⟩ : ∃ V, U1.alloc (.cells #[.int .i64 id, .int .i64 tn, .int .i64 pg, .int .i64 0, .int .i64 0, .int .i64 (-1), .int .i64 (-1), .int .i64 (-1), .int .i64 (-1), .int .i64 1, .int .i64 0] 24) = V := ⟨_, rfl⟩
  rw [hV] at k0 HF BB hg01
  rw [hg] at k0 hb0 hg01
  have HV := Lib.hid hV
  have HG := Lib.hid hg
  have K0 := Lib.hid k0
  have HB0 := Lib.hid hb0
  have HG01 := Lib.hid hg01
  clear hV hg k0 hb0 hg01
  go_upto_region 9 with fail
  rw [HV.out]
  try rw [HG.out]
  clear HV HG
  obtain ⟨q0, q1, q2, q3, q4, q5, q6, q7, q8, q9, q10⟩ := K0.out.c11
  have ql := K0.out.lt
  have k1 := Bk.new V1 24 #[.int .i64 id, .int .i64 tn, .int .i64 pg, .int .i64 0, .int .i64 0, .int .i64 (-1), .int .i64 (-1), .int .i64 (-1), .int .i64 (-1), .int .i64 1, .int .i64 0]
  have ba := (Below.refl V1.heap.size V1).alloc (Nat.le_refl _) (.cells #[.int .i64 id, .int .i64 tn, .int .i64 pg, .int .i64 0, .int .i64 0, .int .i64 (-1), .int .i64 (-1), .int .i64 (-1), .int .i64 (-1), .int .i64 1, .int .i64 0] 24)
  have hf := HF.out.le ba
  have kk := K0.out.below ba K0.out.lt
  have bb := below3 BB.out ba
  have hg01 := HG01.out
  have hgB : V1.heap.size + 1 = (V1.alloc (.cells #[.int .i64 id, .int .i64 tn, .int .i64 pg, .int .i64 0, .int .i64 0, .int .i64 (-1), .int .i64 (-1), .int .i64 (-1), .int .i64 (-1), .int .i64 1, .int .i64 0] 24)).heap.size := by simp
  obtain ⟨g1, hg⟩ : ∃ g, V1.heap.size = g := ⟨_, rfl⟩
  obtain ⟨V2, hV⟩ : ∃ V, V1.alloc (.cells #[.int .i64 id, .int .i64 tn, .int .i64 pg, .int .i64 0, .int .i64 0, .int .i64 (-1), .int .i64 (-1), .int .i64 (-1), .int .i64 (-1), .int .i64 1, .int .i64 0] 24) = V := ⟨_, rfl⟩
  rw [hV] at k1 hf kk bb hgB
  rw [hg] at k1 hgB hg01
  have HV := Lib.hid hV
  have HG := Lib.hid hg
  have K1 := Lib.hid k1
  replace HG01 := Lib.hid hg01
  have HGB := Lib.hid hgB
  clear hV hg k1 hg01 hgB ba
  replace HF := Lib.hid hf
  replace K0 := Lib.hid kk
  replace BB := Lib.hid bb
  clear hf kk bb
  go_upto_region 10 with fail
  rw [HV.out]
  try rw [HG.out]
  clear HV HG q0 q1 q2 q3 q4 q5 q6 q7 q8 q9 q10 ql
  obtain ⟨q0, q1, q2, q3, q4, q5, q6, q7, q8, q9, q10⟩ := K0.out.c11
  have ql := K0.out.lt
  have ba := (Below.refl V2.heap.size V2).alloc (Nat.le_refl _) (.cells #[.int .i64 1] 3)
  have ol := OwnI.one (E := 3) V2 (x := 1) (by decide) (Nat.le_refl _)
  have i0 := Lib.hid (show OnI w _ g0 g1 V2.heap.size id tn pg 1 _ 1 [1] from ⟨K0.out.below ba K0.out.lt, K1.out.below ba K1.out.lt, ol, below3 BB.out ba, HF.out.le ba, ba.size, chn_one⟩)
  clear ol ba
  obtain ⟨gB, hg⟩ : ∃ g, V2.heap.size = g := ⟨_, rfl⟩
  obtain ⟨V3, hV⟩ : ∃ V, V2.alloc (.cells #[.int .i64 1] 3) = V := ⟨_, rfl⟩
  rw [hV] at i0
  rw [hg] at i0 HGB
  have HV := Lib.hid hV
  have HG := Lib.hid hg
  clear hV hg K0 K1 BB HF
  go_upto_region 11 with fail
  rw [HV.out]
  try rw [HG.out]
  clear HV HG q0 q1 q2 q3 q4 q5 q6 q7 q8 q9 q10 ql
  go_wp2_with fail
  go_loopw [13, 47] (fun u t wr => ∃ k : Nat, k ≤ n ∧ t = .int .i64 k ∧ ∃ Aw cw m xs s, u = .slice Aw m cw ∧ Hid (xs.length = m) ∧ Hid (m ≤ k + 1) ∧ Hid (OnI w wr g0 g1 gB id tn pg s Aw cw xs)) (fun _ t _ => n - (intOf t).toNat)
  case atStart => exact ⟨0, Nat.zero_le _, rfl, _, 1, 1, [1], 1, rfl, Lib.hid rfl, Lib.hid (Nat.le_refl _), i0⟩
  case round =>
    clear i0
    rename World => wr
    obtain ⟨k, hk, rfl, Aw, cw, m, xs, s, rfl, HM, HMK, IJ⟩ := hrel
    by_cases hkn : k < n
    · obtain ⟨b, o, rfl, hb, c0⟩ := (HX.out.below IJ.out.b).at_ hkn
      obtain ⟨u, hu⟩ : ∃ u, nth l k = u := ⟨_, rfl⟩
      rw [hu] at c0
      have FU : Hid (Fit u) := Lib.hid (hu ▸ HX.out.2.2.1 _ (by rw [nth_get (by rw [LX.out]; exact hkn)]; exact List.getElem_mem _))
      have hok : okT ⟨id, tn, pg, 0, 0, -1, -1, -1, -1, s, 0⟩ := ⟨⟨HOK.out.1.1, HOK.out.1.2.1, HOK.out.1.2.2.1, HOK.out.1.2.2.2.1, HOK.out.1.2.2.2.2.1, HOK.out.1.2.2.2.2.2.1, IJ.out.ch.st⟩, HOK.out.2⟩
      clear hu
      by_cases hl : legB s u = true
      · have S2 := Lib.hid (fun (W : World) (h : Fol W) => (moveR_4 hok (leg_st hl) hl) ▸ move_any ⟨id, tn, pg, 0, 0, -1, -1, -1, -1, s, 0⟩ u W h)
        have HL := Lib.hid hl
        clear hok hl
        unfold tc at S2
        dsimp only at S2
        obtain ⟨q0, q1, q2, q3, q4, q5, q6, q7, q8, q9, q10⟩ := IJ.out.t.c11
        have ql := IJ.out.t.lt
        go_wp2_with fail
        refine (S2.out wr IJ.out.fol).mono ?_
        rintro e U2 ⟨rfl, b2⟩
        clear c0 hb q0 q1 q2 q3 q4 q5 q6 q7 q8 q9 q10 ql
        have ba := (Below.refl U2.heap.size U2).alloc (Nat.le_refl _) (.cells #[.int .i64 id, .int .i64 tn, .int .i64 pg, .int .i64 0, .int .i64 0, .int .i64 (-1), .int .i64 (-1), .int .i64 (-1), .int .i64 (-1), .int .i64 u, .int .i64 0] 24)
        have kn := Bk.new U2 24 #[.int .i64 id, .int .i64 tn, .int .i64 pg, .int .i64 0, .int .i64 0, .int .i64 (-1), .int .i64 (-1), .int .i64 (-1), .int .i64 (-1), .int .i64 u, .int .i64 0]
        replace IJ := Lib.hid ((IJ.out.below b2).below ba)
        obtain ⟨gn, hg⟩ : ∃ g, U2.heap.size = g := ⟨_, rfl⟩
        obtain ⟨X2, hX⟩ : ∃ X, U2.alloc (.cells #[.int .i64 id, .int .i64 tn, .int .i64 pg, .int .i64 0, .int .i64 0, .int .i64 (-1), .int .i64 (-1), .int .i64 (-1), .int .i64 (-1), .int .i64 u, .int .i64 0] 24) = X := ⟨_, rfl⟩
        rw [hX] at kn IJ
        rw [hg] at kn
        have HV := Lib.hid hX
        have HG := Lib.hid hg
        have KN := Lib.hid kn
        clear hX hg kn ba b2
        go_upto_region 15 with fail
        rw [HV.out]
        try rw [HG.out]
        clear HV HG
        obtain ⟨q0, q1, q2, q3, q4, q5, q6, q7, q8, q9, q10⟩ := IJ.out.t.c11
        have ql := IJ.out.t.lt
        go_wp2_with fail
        refine (leg_any s u _ IJ.out.fol).mono ?_
        rw [HL.out]
        rintro e X3 ⟨rfl, rfl⟩
        have HT : Hid ((s = 1 ∧ u = 2) ∨ ((u == 2) = false ∧ wtB s = false) ∨ (u = 1 ∧ wtB s = true) ∨ (u = 7 ∧ wtB s = true)) := Lib.hid (by
          have hl := HL.out
          by_cases h2 : u = 2
          · subst h2
            exact .inl ⟨leg_run hl, rfl⟩
          · have h2b : (u == 2) = false := by simpa using h2
            by_cases hw : wtB s = true
            · rcases leg_wait hl hw with rfl | rfl
              · exact .inr (.inr (.inl ⟨rfl, hw⟩))
              · exact .inr (.inr (.inr ⟨rfl, hw⟩))
            · exact .inr (.inl ⟨h2b, by simpa using hw⟩))
        have t7 := leg_over HL.out
        go_upto_region 18 with fail
        obtain ⟨r0, r1, r2, r3, r4, r5, r6, r7, r8, r9, r10⟩ := KN.out.c11
        have rl := KN.out.lt
        rcases HT.out with ⟨rfl, rfl⟩ | ⟨x1, x3⟩ | ⟨rfl, x3⟩ | ⟨rfl, x3⟩
        · clear HT
          have h3 : wtB 1 = false := by decide
          go_wp2_with fail
          refine (wt_any 1 _).mono ?_
          rw [h3]
          rintro e X3 ⟨rfl, rfl⟩
          go_upto_region 20 with fail
          clear t7 h3 r0 r1 r2 r3 r4 r5 r6 r7 r8 r9 r10 rl
          obtain ⟨f0, f1, f2, f3, f4, f5, f6, f7, f8, f9, f10⟩ := IJ.out.t.f11
          have n1 := bk_set11 IJ.out.t (.int .i64 id) (.int .i64 tn) (.int .i64 pg) (.int .i64 0) (.int .i64 0) (.int .i64 (-1)) (.int .i64 (-1)) (.int .i64 (-1)) (.int .i64 (-1)) (.int .i64 2) (.int .i64 0)
          have n2 := far_set11 (g := g0) IJ.out.f (Nat.ne_of_gt HG01.out) (.int .i64 id) (.int .i64 tn) (.int .i64 pg) (.int .i64 0) (.int .i64 0) (.int .i64 (-1)) (.int .i64 (-1)) (.int .i64 (-1)) (.int .i64 (-1)) (.int .i64 2) (.int .i64 0)
          have n3 := IJ.out.l.far11 (g := g0) (by have := HG01.out; have := HGB.out; omega) (.int .i64 id) (.int .i64 tn) (.int .i64 pg) (.int .i64 0) (.int .i64 0) (.int .i64 (-1)) (.int .i64 (-1)) (.int .i64 (-1)) (.int .i64 (-1)) (.int .i64 2) (.int .i64 0)
          have n4 := below_set11 (g := g0) IJ.out.b HB0.out (.int .i64 id) (.int .i64 tn) (.int .i64 pg) (.int .i64 0) (.int .i64 0) (.int .i64 (-1)) (.int .i64 (-1)) (.int .i64 (-1)) (.int .i64 (-1)) (.int .i64 2) (.int .i64 0)
          have n5 := IJ.out.fol.below (below_set11 (g := g0) (Below.refl g0 _) (Nat.le_refl _) (.int .i64 id) (.int .i64 tn) (.int .i64 pg) (.int .i64 0) (.int .i64 0) (.int .i64 (-1)) (.int .i64 (-1)) (.int .i64 (-1)) (.int .i64 (-1)) (.int .i64 2) (.int .i64 0)) (by have := HW0.out; have := HB0.out; omega)
          have n6 : gB ≤ (set11 X2 g0 (.int .i64 id) (.int .i64 tn) (.int .i64 pg) (.int .i64 0) (.int .i64 0) (.int .i64 (-1)) (.int .i64 (-1)) (.int .i64 (-1)) (.int .i64 (-1)) (.int .i64 2) (.int .i64 0)).heap.size := by rw [size_set11]; exact IJ.out.sz
          obtain ⟨r0, r1, r2, r3, r4, r5, r6, r7, r8, r9, r10⟩ := KN.out.c11
          have rl := KN.out.lt
          obtain ⟨X4, hX⟩ : ∃ X, set11 X2 g0 (.int .i64 id) (.int .i64 tn) (.int .i64 pg) (.int .i64 0) (.int .i64 0) (.int .i64 (-1)) (.int .i64 (-1)) (.int .i64 (-1)) (.int .i64 (-1)) (.int .i64 2) (.int .i64 0) = X := ⟨_, rfl⟩
          rw [hX] at n1 n2 n3 n4 n5 n6
          unfold set11 at hX
          have HV := Lib.hid hX
          have CH := Lib.hid (IJ.out.ch.more HL.out)
          have N1 := Lib.hid n1
          have N2 := Lib.hid n2
          have N3 := Lib.hid n3
          have N4 := Lib.hid n4
          have N5 := Lib.hid n5
          have N6 := Lib.hid n6
          clear n1 n2 n3 n4 n5 n6 hX IJ HL
          go_upto_region 21 with fail
          rw [HV.out]
          clear HV KN q0 q1 q2 q3 q4 q5 q6 q7 q8 q9 q10 ql r0 r1 r2 r3 r4 r5 r6 r7 r8 r9 r10 rl f0 f1 f2 f3 f4 f5 f6 f7 f8 f9 f10
          have ba := (Below.refl X4.heap.size X4).alloc (Nat.le_refl _) (.cells #[.int .i64 2] 3)
          have M1 := Lib.hid (N1.out.below ba N1.out.lt)
          have M2 := Lib.hid (N2.out.below ba N2.out.lt)
          have M3 := Lib.hid (N3.out.below ba)
          have M4 := Lib.hid (N4.out.alloc N4.out.size (.cells #[.int .i64 2] 3))
          have M5 := Lib.hid (N5.out.le ba)
          have M6 := Lib.hid (Nat.le_trans N6.out ba.size)
          have T1 := Lib.hid (ints1 X4 3 FU.out)
          clear ba
          obtain ⟨q0, q1, q2, q3, q4, q5, q6, q7, q8, q9, q10⟩ := N1.out.c11
          have ql := N1.out.lt
          clear N2 N3 N4 N5 N6
          go_wp2_with (at_builtin; go_loud (refine wpList_append_ints _ rfl _ _ 35 rfl 3 Tryd.underlying35 infoIn gB Aw cw xs m HM.out.symm rfl M3.out (some ⟨X4.heap.size, 0, none⟩) 1 1 [2] rfl T1.out (by have := HM.out; have := HMK.out; have := HN2.out; omega) M6.out ?_; intro A5 c5 w5 ho hgr; have b5 := below_app (Below.refl gB _) M3.out hgr M6.out; have P1 := Lib.hid (M1.out.below b5 (by have := HG01.out; have := HGB.out; omega)); have P2 := Lib.hid (M2.out.below b5 (by have := HGB.out; omega)); have P4 := Lib.hid (M4.out.trans (b5.mono (by have := HB0.out; have := HG01.out; have := HGB.out; omega))); have P5 := Lib.hid (M5.out.below b5 (by have := HGB.out; omega)); have P6 := Lib.hid (Nat.le_trans M6.out b5.size); have P3 := Lib.hid ho; clear ho hgr b5 T1 M1 M2 M3 M4 M5 M6 N1 q0 q1 q2 q3 q4 q5 q6 q7 q8 q9 q10 ql))
          go_roundw
          case rel => exact ⟨k + 1, by omega, by go_num, A5, c5, _, xs ++ [2], 2, rfl, Lib.hid (by simp), Lib.hid (by have := HM.out; have := HMK.out; simp; omega), Lib.hid ⟨P1.out, P2.out, P3.out, P4.out, P5.out, P6.out, CH.out⟩⟩
          case measure => simp [intOf]; omega
        · clear HT
          go_wp2_with fail
          refine (wt_any s _).mono ?_
          rw [x3]
          rintro e X3 ⟨rfl, rfl⟩
          go_upto_region 20 with fail
          clear t7 x1 x3 r0 r1 r2 r3 r4 r5 r6 r7 r8 r9 r10 rl
          obtain ⟨f0, f1, f2, f3, f4, f5, f6, f7, f8, f9, f10⟩ := IJ.out.t.f11
          have n1 := bk_set11 IJ.out.t (.int .i64 id) (.int .i64 tn) (.int .i64 pg) (.int .i64 0) (.int .i64 0) (.int .i64 (-1)) (.int .i64 (-1)) (.int .i64 (-1)) (.int .i64 (-1)) (.int .i64 u) (.int .i64 0)
          have n2 := far_set11 (g := g0) IJ.out.f (Nat.ne_of_gt HG01.out) (.int .i64 id) (.int .i64 tn) (.int .i64 pg) (.int .i64 0) (.int .i64 0) (.int .i64 (-1)) (.int .i64 (-1)) (.int .i64 (-1)) (.int .i64 (-1)) (.int .i64 u) (.int .i64 0)
          have n3 := IJ.out.l.far11 (g := g0) (by have := HG01.out; have := HGB.out; omega) (.int .i64 id) (.int .i64 tn) (.int .i64 pg) (.int .i64 0) (.int .i64 0) (.int .i64 (-1)) (.int .i64 (-1)) (.int .i64 (-1)) (.int .i64 (-1)) (.int .i64 u) (.int .i64 0)
          have n4 := below_set11 (g := g0) IJ.out.b HB0.out (.int .i64 id) (.int .i64 tn) (.int .i64 pg) (.int .i64 0) (.int .i64 0) (.int .i64 (-1)) (.int .i64 (-1)) (.int .i64 (-1)) (.int .i64 (-1)) (.int .i64 u) (.int .i64 0)
          have n5 := IJ.out.fol.below (below_set11 (g := g0) (Below.refl g0 _) (Nat.le_refl _) (.int .i64 id) (.int .i64 tn) (.int .i64 pg) (.int .i64 0) (.int .i64 0) (.int .i64 (-1)) (.int .i64 (-1)) (.int .i64 (-1)) (.int .i64 (-1)) (.int .i64 u) (.int .i64 0)) (by have := HW0.out; have := HB0.out; omega)
          have n6 : gB ≤ (set11 X2 g0 (.int .i64 id) (.int .i64 tn) (.int .i64 pg) (.int .i64 0) (.int .i64 0) (.int .i64 (-1)) (.int .i64 (-1)) (.int .i64 (-1)) (.int .i64 (-1)) (.int .i64 u) (.int .i64 0)).heap.size := by rw [size_set11]; exact IJ.out.sz
          obtain ⟨r0, r1, r2, r3, r4, r5, r6, r7, r8, r9, r10⟩ := KN.out.c11
          have rl := KN.out.lt
          obtain ⟨X4, hX⟩ : ∃ X, set11 X2 g0 (.int .i64 id) (.int .i64 tn) (.int .i64 pg) (.int .i64 0) (.int .i64 0) (.int .i64 (-1)) (.int .i64 (-1)) (.int .i64 (-1)) (.int .i64 (-1)) (.int .i64 u) (.int .i64 0) = X := ⟨_, rfl⟩
          rw [hX] at n1 n2 n3 n4 n5 n6
          unfold set11 at hX
          have HV := Lib.hid hX
          have CH := Lib.hid (IJ.out.ch.more HL.out)
          have N1 := Lib.hid n1
          have N2 := Lib.hid n2
          have N3 := Lib.hid n3
          have N4 := Lib.hid n4
          have N5 := Lib.hid n5
          have N6 := Lib.hid n6
          clear n1 n2 n3 n4 n5 n6 hX IJ HL
          go_upto_region 21 with fail
          rw [HV.out]
          clear HV KN q0 q1 q2 q3 q4 q5 q6 q7 q8 q9 q10 ql r0 r1 r2 r3 r4 r5 r6 r7 r8 r9 r10 rl f0 f1 f2 f3 f4 f5 f6 f7 f8 f9 f10
          have ba := (Below.refl X4.heap.size X4).alloc (Nat.le_refl _) (.cells #[.int .i64 u] 3)
          have M1 := Lib.hid (N1.out.below ba N1.out.lt)
          have M2 := Lib.hid (N2.out.below ba N2.out.lt)
          have M3 := Lib.hid (N3.out.below ba)
          have M4 := Lib.hid (N4.out.alloc N4.out.size (.cells #[.int .i64 u] 3))
          have M5 := Lib.hid (N5.out.le ba)
          have M6 := Lib.hid (Nat.le_trans N6.out ba.size)
          have T1 := Lib.hid (ints1 X4 3 FU.out)
          clear ba
          obtain ⟨q0, q1, q2, q3, q4, q5, q6, q7, q8, q9, q10⟩ := N1.out.c11
          have ql := N1.out.lt
          clear N2 N3 N4 N5 N6
          go_wp2_with (at_builtin; go_loud (refine wpList_append_ints _ rfl _ _ 35 rfl 3 Tryd.underlying35 infoIn gB Aw cw xs m HM.out.symm rfl M3.out (some ⟨X4.heap.size, 0, none⟩) 1 1 [u] rfl T1.out (by have := HM.out; have := HMK.out; have := HN2.out; omega) M6.out ?_; intro A5 c5 w5 ho hgr; have b5 := below_app (Below.refl gB _) M3.out hgr M6.out; have P1 := Lib.hid (M1.out.below b5 (by have := HG01.out; have := HGB.out; omega)); have P2 := Lib.hid (M2.out.below b5 (by have := HGB.out; omega)); have P4 := Lib.hid (M4.out.trans (b5.mono (by have := HB0.out; have := HG01.out; have := HGB.out; omega))); have P5 := Lib.hid (M5.out.below b5 (by have := HGB.out; omega)); have P6 := Lib.hid (Nat.le_trans M6.out b5.size); have P3 := Lib.hid ho; clear ho hgr b5 T1 M1 M2 M3 M4 M5 M6 N1 q0 q1 q2 q3 q4 q5 q6 q7 q8 q9 q10 ql))
          go_roundw
          case rel => exact ⟨k + 1, by omega, by go_num, A5, c5, _, xs ++ [u], u, rfl, Lib.hid (by simp), Lib.hid (by have := HM.out; have := HMK.out; simp; omega), Lib.hid ⟨P1.out, P2.out, P3.out, P4.out, P5.out, P6.out, CH.out⟩⟩
          case measure => simp [intOf]; omega
        · clear HT
          go_wp2_with fail
          refine (wt_any s _).mono ?_
          rw [x3]
          rintro e X3 ⟨rfl, rfl⟩
          go_upto_region 20 with fail
          clear t7 x3 r0 r1 r2 r3 r4 r5 r6 r7 r8 r9 r10 rl
          obtain ⟨f0, f1, f2, f3, f4, f5, f6, f7, f8, f9, f10⟩ := IJ.out.t.f11
          have n1 := bk_set11 IJ.out.t (.int .i64 id) (.int .i64 tn) (.int .i64 pg) (.int .i64 0) (.int .i64 0) (.int .i64 (-1)) (.int .i64 (-1)) (.int .i64 (-1)) (.int .i64 (-1)) (.int .i64 1) (.int .i64 0)
          have n2 := far_set11 (g := g0) IJ.out.f (Nat.ne_of_gt HG01.out) (.int .i64 id) (.int .i64 tn) (.int .i64 pg) (.int .i64 0) (.int .i64 0) (.int .i64 (-1)) (.int .i64 (-1)) (.int .i64 (-1)) (.int .i64 (-1)) (.int .i64 1) (.int .i64 0)
          have n3 := IJ.out.l.far11 (g := g0) (by have := HG01.out; have := HGB.out; omega) (.int .i64 id) (.int .i64 tn) (.int .i64 pg) (.int .i64 0) (.int .i64 0) (.int .i64 (-1)) (.int .i64 (-1)) (.int .i64 (-1)) (.int .i64 (-1)) (.int .i64 1) (.int .i64 0)
          have n4 := below_set11 (g := g0) IJ.out.b HB0.out (.int .i64 id) (.int .i64 tn) (.int .i64 pg) (.int .i64 0) (.int .i64 0) (.int .i64 (-1)) (.int .i64 (-1)) (.int .i64 (-1)) (.int .i64 (-1)) (.int .i64 1) (.int .i64 0)
          have n5 := IJ.out.fol.below (below_set11 (g := g0) (Below.refl g0 _) (Nat.le_refl _) (.int .i64 id) (.int .i64 tn) (.int .i64 pg) (.int .i64 0) (.int .i64 0) (.int .i64 (-1)) (.int .i64 (-1)) (.int .i64 (-1)) (.int .i64 (-1)) (.int .i64 1) (.int .i64 0)) (by have := HW0.out; have := HB0.out; omega)
          have n6 : gB ≤ (set11 X2 g0 (.int .i64 id) (.int .i64 tn) (.int .i64 pg) (.int .i64 0) (.int .i64 0) (.int .i64 (-1)) (.int .i64 (-1)) (.int .i64 (-1)) (.int .i64 (-1)) (.int .i64 1) (.int .i64 0)).heap.size := by rw [size_set11]; exact IJ.out.sz
          obtain ⟨r0, r1, r2, r3, r4, r5, r6, r7, r8, r9, r10⟩ := KN.out.c11
          have rl := KN.out.lt
          obtain ⟨X4, hX⟩ : ∃ X, set11 X2 g0 (.int .i64 id) (.int .i64 tn) (.int .i64 pg) (.int .i64 0) (.int .i64 0) (.int .i64 (-1)) (.int .i64 (-1)) (.int .i64 (-1)) (.int .i64 (-1)) (.int .i64 1) (.int .i64 0) = X := ⟨_, rfl⟩
          rw [hX] at n1 n2 n3 n4 n5 n6
          unfold set11 at hX
          have HV := Lib.hid hX
          have CH := Lib.hid (IJ.out.ch.more HL.out)
          have N1 := Lib.hid n1
          have N2 := Lib.hid n2
          have N3 := Lib.hid n3
          have N4 := Lib.hid n4
          have N5 := Lib.hid n5
          have N6 := Lib.hid n6
          clear n1 n2 n3 n4 n5 n6 hX IJ HL
          go_upto_region 21 with fail
          rw [HV.out]
          clear HV KN q0 q1 q2 q3 q4 q5 q6 q7 q8 q9 q10 ql r0 r1 r2 r3 r4 r5 r6 r7 r8 r9 r10 rl f0 f1 f2 f3 f4 f5 f6 f7 f8 f9 f10
          have ba := (Below.refl X4.heap.size X4).alloc (Nat.le_refl _) (.cells #[.int .i64 1] 3)
          have M1 := Lib.hid (N1.out.below ba N1.out.lt)
          have M2 := Lib.hid (N2.out.below ba N2.out.lt)
          have M3 := Lib.hid (N3.out.below ba)
          have M4 := Lib.hid (N4.out.alloc N4.out.size (.cells #[.int .i64 1] 3))
          have M5 := Lib.hid (N5.out.le ba)
          have M6 := Lib.hid (Nat.le_trans N6.out ba.size)
          have T1 := Lib.hid (ints1 X4 3 FU.out)
          clear ba
          obtain ⟨q0, q1, q2, q3, q4, q5, q6, q7, q8, q9, q10⟩ := N1.out.c11
          have ql := N1.out.lt
          clear N2 N3 N4 N5 N6
          go_wp2_with (at_builtin; go_loud (refine wpList_append_ints _ rfl _ _ 35 rfl 3 Tryd.underlying35 infoIn gB Aw cw xs m HM.out.symm rfl M3.out (some ⟨X4.heap.size, 0, none⟩) 1 1 [1] rfl T1.out (by have := HM.out; have := HMK.out; have := HN2.out; omega) M6.out ?_; intro A5 c5 w5 ho hgr; have b5 := below_app (Below.refl gB _) M3.out hgr M6.out; have P1 := Lib.hid (M1.out.below b5 (by have := HG01.out; have := HGB.out; omega)); have P2 := Lib.hid (M2.out.below b5 (by have := HGB.out; omega)); have P4 := Lib.hid (M4.out.trans (b5.mono (by have := HB0.out; have := HG01.out; have := HGB.out; omega))); have P5 := Lib.hid (M5.out.below b5 (by have := HGB.out; omega)); have P6 := Lib.hid (Nat.le_trans M6.out b5.size); have P3 := Lib.hid ho; clear ho hgr b5 T1 M1 M2 M3 M4 M5 M6 N1 q0 q1 q2 q3 q4 q5 q6 q7 q8 q9 q10 ql))
          go_roundw
          case rel => exact ⟨k + 1, by omega, by go_num, A5, c5, _, xs ++ [1], 1, rfl, Lib.hid (by simp), Lib.hid (by have := HM.out; have := HMK.out; simp; omega), Lib.hid ⟨P1.out, P2.out, P3.out, P4.out, P5.out, P6.out, CH.out⟩⟩
          case measure => simp [intOf]; omega
        · clear HT
          go_wp2_with fail
          refine (wt_any s _).mono ?_
          rw [x3]
          rintro e X3 ⟨rfl, rfl⟩
          go_upto_region 20 with fail
          clear t7 x3 r0 r1 r2 r3 r4 r5 r6 r7 r8 r9 r10 rl
          obtain ⟨f0, f1, f2, f3, f4, f5, f6, f7, f8, f9, f10⟩ := IJ.out.t.f11
          have n1 := bk_set11 IJ.out.t (.int .i64 id) (.int .i64 tn) (.int .i64 pg) (.int .i64 0) (.int .i64 0) (.int .i64 (-1)) (.int .i64 (-1)) (.int .i64 (-1)) (.int .i64 (-1)) (.int .i64 7) (.int .i64 0)
          have n2 := far_set11 (g := g0) IJ.out.f (Nat.ne_of_gt HG01.out) (.int .i64 id) (.int .i64 tn) (.int .i64 pg) (.int .i64 0) (.int .i64 0) (.int .i64 (-1)) (.int .i64 (-1)) (.int .i64 (-1)) (.int .i64 (-1)) (.int .i64 7) (.int .i64 0)
          have n3 := IJ.out.l.far11 (g := g0) (by have := HG01.out; have := HGB.out; omega) (.int .i64 id) (.int .i64 tn) (.int .i64 pg) (.int .i64 0) (.int .i64 0) (.int .i64 (-1)) (.int .i64 (-1)) (.int .i64 (-1)) (.int .i64 (-1)) (.int .i64 7) (.int .i64 0)
          have n4 := below_set11 (g := g0) IJ.out.b HB0.out (.int .i64 id) (.int .i64 tn) (.int .i64 pg) (.int .i64 0) (.int .i64 0) (.int .i64 (-1)) (.int .i64 (-1)) (.int .i64 (-1)) (.int .i64 (-1)) (.int .i64 7) (.int .i64 0)
          have n5 := IJ.out.fol.below (below_set11 (g := g0) (Below.refl g0 _) (Nat.le_refl _) (.int .i64 id) (.int .i64 tn) (.int .i64 pg) (.int .i64 0) (.int .i64 0) (.int .i64 (-1)) (.int .i64 (-1)) (.int .i64 (-1)) (.int .i64 (-1)) (.int .i64 7) (.int .i64 0)) (by have := HW0.out; have := HB0.out; omega)
          have n6 : gB ≤ (set11 X2 g0 (.int .i64 id) (.int .i64 tn) (.int .i64 pg) (.int .i64 0) (.int .i64 0) (.int .i64 (-1)) (.int .i64 (-1)) (.int .i64 (-1)) (.int .i64 (-1)) (.int .i64 7) (.int .i64 0)).heap.size := by rw [size_set11]; exact IJ.out.sz
          obtain ⟨r0, r1, r2, r3, r4, r5, r6, r7, r8, r9, r10⟩ := KN.out.c11
          have rl := KN.out.lt
          obtain ⟨X4, hX⟩ : ∃ X, set11 X2 g0 (.int .i64 id) (.int .i64 tn) (.int .i64 pg) (.int .i64 0) (.int .i64 0) (.int .i64 (-1)) (.int .i64 (-1)) (.int .i64 (-1)) (.int .i64 (-1)) (.int .i64 7) (.int .i64 0) = X := ⟨_, rfl⟩
          rw [hX] at n1 n2 n3 n4 n5 n6
          unfold set11 at hX
          have HV := Lib.hid hX
          have CH := Lib.hid (IJ.out.ch.more HL.out)
          have N1 := Lib.hid n1
          have N2 := Lib.hid n2
          have N3 := Lib.hid n3
          have N4 := Lib.hid n4
          have N5 := Lib.hid n5
          have N6 := Lib.hid n6
          clear n1 n2 n3 n4 n5 n6 hX IJ HL
          go_upto_region 21 with fail
          rw [HV.out]
          clear HV KN q0 q1 q2 q3 q4 q5 q6 q7 q8 q9 q10 ql r0 r1 r2 r3 r4 r5 r6 r7 r8 r9 r10 rl f0 f1 f2 f3 f4 f5 f6 f7 f8 f9 f10
          have ba := (Below.refl X4.heap.size X4).alloc (Nat.le_refl _) (.cells #[.int .i64 7] 3)
          have M1 := Lib.hid (N1.out.below ba N1.out.lt)
          have M2 := Lib.hid (N2.out.below ba N2.out.lt)
          have M3 := Lib.hid (N3.out.below ba)
          have M4 := Lib.hid (N4.out.alloc N4.out.size (.cells #[.int .i64 7] 3))
          have M5 := Lib.hid (N5.out.le ba)
          have M6 := Lib.hid (Nat.le_trans N6.out ba.size)
          have T1 := Lib.hid (ints1 X4 3 FU.out)
          clear ba
          obtain ⟨q0, q1, q2, q3, q4, q5, q6, q7, q8, q9, q10⟩ := N1.out.c11
          have ql := N1.out.lt
          clear N2 N3 N4 N5 N6
          go_wp2_with (at_builtin; go_loud (refine wpList_append_ints _ rfl _ _ 35 rfl 3 Tryd.underlying35 infoIn gB Aw cw xs m HM.out.symm rfl M3.out (some ⟨X4.heap.size, 0, none⟩) 1 1 [7] rfl T1.out (by have := HM.out; have := HMK.out; have := HN2.out; omega) M6.out ?_; intro A5 c5 w5 ho hgr; have b5 := below_app (Below.refl gB _) M3.out hgr M6.out; have P1 := Lib.hid (M1.out.below b5 (by have := HG01.out; have := HGB.out; omega)); have P2 := Lib.hid (M2.out.below b5 (by have := HGB.out; omega)); have P4 := Lib.hid (M4.out.trans (b5.mono (by have := HB0.out; have := HG01.out; have := HGB.out; omega))); have P5 := Lib.hid (M5.out.below b5 (by have := HGB.out; omega)); have P6 := Lib.hid (Nat.le_trans M6.out b5.size); have P3 := Lib.hid ho; clear ho hgr b5 T1 M1 M2 M3 M4 M5 M6 N1 q0 q1 q2 q3 q4 q5 q6 q7 q8 q9 q10 ql))
          go_roundw
          case rel => exact ⟨k + 1, by omega, by go_num, A5, c5, _, xs ++ [7], 7, rfl, Lib.hid (by simp), Lib.hid (by have := HM.out; have := HMK.out; simp; omega), Lib.hid ⟨P1.out, P2.out, P3.out, P4.out, P5.out, P6.out, CH.out⟩⟩
          case measure => simp [intOf]; omega
      · have hl2 : legB s u = false := by simpa using hl
        have HL := Lib.hid hl2
        by_cases hs : stB u = true
        · have S2 := Lib.hid (fun (W : World) (h : Fol W) => (moveR_3 hok hs hl) ▸ move_any ⟨id, tn, pg, 0, 0, -1, -1, -1, -1, s, 0⟩ u W h)
          unfold zT at S2
          clear hok hl hl2 hs
          unfold tc at S2
          dsimp only at S2
          obtain ⟨q0, q1, q2, q3, q4, q5, q6, q7, q8, q9, q10⟩ := IJ.out.t.c11
          have ql := IJ.out.t.lt
          go_wp2_with fail
          refine (S2.out wr IJ.out.fol).mono ?_
          rintro e U2 ⟨rfl, b2⟩
          clear c0 hb q0 q1 q2 q3 q4 q5 q6 q7 q8 q9 q10 ql
          have ba := (Below.refl U2.heap.size U2).alloc (Nat.le_refl _) (.cells #[.int .i64 0, .int .i64 0, .int .i64 0, .int .i64 0, .int .i64 0, .int .i64 0, .int .i64 0, .int .i64 0, .int .i64 0, .int .i64 0, .int .i64 0] 24)
          have kn := Bk.new U2 24 #[.int .i64 0, .int .i64 0, .int .i64 0, .int .i64 0, .int .i64 0, .int .i64 0, .int .i64 0, .int .i64 0, .int .i64 0, .int .i64 0, .int .i64 0]
          replace IJ := Lib.hid ((IJ.out.below b2).below ba)
          obtain ⟨gn, hg⟩ : ∃ g, U2.heap.size = g := ⟨_, rfl⟩
          obtain ⟨X2, hX⟩ : ∃ X, U2.alloc (.cells #[.int .i64 0, .int .i64 0, .int .i64 0, .int .i64 0, .int .i64 0, .int .i64 0, .int .i64 0, .int .i64 0, .int .i64 0, .int .i64 0, .int .i64 0] 24) = X := ⟨_, rfl⟩
          rw [hX] at kn IJ
          rw [hg] at kn
          have HV := Lib.hid hX
          have HG := Lib.hid hg
          have KN := Lib.hid kn
          clear hX hg kn ba b2
          go_upto_region 15 with fail
          rw [HV.out]
          try rw [HG.out]
          clear HV HG
          obtain ⟨q0, q1, q2, q3, q4, q5, q6, q7, q8, q9, q10⟩ := IJ.out.t.c11
          have ql := IJ.out.t.lt
          go_wp2_with fail
          refine (leg_any s u _ IJ.out.fol).mono ?_
          rw [HL.out]
          rintro e X3 ⟨rfl, rfl⟩
          clear q0 q1 q2 q3 q4 q5 q6 q7 q8 q9 q10 ql
          go_wp2_with fail
          go_roundw
          case rel => exact ⟨k + 1, by omega, by go_num, Aw, cw, m, xs, s, rfl, HM, Lib.hid (Nat.le_succ_of_le HMK.out), IJ⟩
          case measure => simp [intOf]; omega
        · have S2 := Lib.hid (fun (W : World) (h : Fol W) => (moveR_2 hok hs) ▸ move_any ⟨id, tn, pg, 0, 0, -1, -1, -1, -1, s, 0⟩ u W h)
          unfold zT at S2
          clear hok hl hl2 hs
          unfold tc at S2
          dsimp only at S2
          obtain ⟨q0, q1, q2, q3, q4, q5, q6, q7, q8, q9, q10⟩ := IJ.out.t.c11
          have ql := IJ.out.t.lt
          go_wp2_with fail
          refine (S2.out wr IJ.out.fol).mono ?_
          rintro e U2 ⟨rfl, b2⟩
          clear c0 hb q0 q1 q2 q3 q4 q5 q6 q7 q8 q9 q10 ql
          have ba := (Below.refl U2.heap.size U2).alloc (Nat.le_refl _) (.cells #[.int .i64 0, .int .i64 0, .int .i64 0, .int .i64 0, .int .i64 0, .int .i64 0, .int .i64 0, .int .i64 0, .int .i64 0, .int .i64 0, .int .i64 0] 24)
          have kn := Bk.new U2 24 #[.int .i64 0, .int .i64 0, .int .i64 0, .int .i64 0, .int .i64 0, .int .i64 0, .int .i64 0, .int .i64 0, .int .i64 0, .int .i64 0, .int .i64 0]
          replace IJ := Lib.hid ((IJ.out.below b2).below ba)
          obtain ⟨gn, hg⟩ : ∃ g, U2.heap.size = g := ⟨_, rfl⟩
          obtain ⟨X2, hX⟩ : ∃ X, U2.alloc (.cells #[.int .i64 0, .int .i64 0, .int .i64 0, .int .i64 0, .int .i64 0, .int .i64 0, .int .i64 0, .int .i64 0, .int .i64 0, .int .i64 0, .int .i64 0] 24) = X := ⟨_, rfl⟩
          rw [hX] at kn IJ
          rw [hg] at kn
          have HV := Lib.hid hX
          have HG := Lib.hid hg
          have KN := Lib.hid kn
          clear hX hg kn ba b2
          go_upto_region 15 with fail
          rw [HV.out]
          try rw [HG.out]
          clear HV HG
          obtain ⟨q0, q1, q2, q3, q4, q5, q6, q7, q8, q9, q10⟩ := IJ.out.t.c11
          have ql := IJ.out.t.lt
          go_wp2_with fail
          refine (leg_any s u _ IJ.out.fol).mono ?_
          rw [HL.out]
          rintro e X3 ⟨rfl, rfl⟩
          clear q0 q1 q2 q3 q4 q5 q6 q7 q8 q9 q10 ql
          go_wp2_with fail
          go_roundw
          case rel => exact ⟨k + 1, by omega, by go_num, Aw, cw, m, xs, s, rfl, HM, Lib.hid (Nat.le_succ_of_le HMK.out), IJ⟩
          case measure => simp [intOf]; omega
    · obtain rfl : k = n := by omega
      have ht := trace_any Aw m cw xs wr (IJ.out.l.intsN HM.out) (by have := IJ.out.l.cap.1; rw [HM.out] at this; exact this) IJ.out.fol
      rw [IJ.out.ch.trace, HM.out] at ht
      have HT := Lib.hid ht
      clear ht
      go_wp2_with fail
      refine HT.out.mono ?_
      rintro e X3 ⟨rfl, rfl⟩
      obtain ⟨q0, q1, q2, q3, q4, q5, q6, q7, q8, q9, q10⟩ := IJ.out.f.c11
      have ql := IJ.out.f.lt
      obtain ⟨r0, r1, r2, r3, r4, r5, r6, r7, r8, r9, r10⟩ := IJ.out.t.c11
      have rl := IJ.out.t.lt
      obtain ⟨f0, f1, f2, f3, f4, f5, f6, f7, f8, f9, f10⟩ := IJ.out.t.f11
      have n1 : Bk _ g0 24 #[.int .i64 id, .int .i64 tn, .int .i64 pg, .int .i64 0, .int .i64 0, .int .i64 (-1), .int .i64 (-1), .int .i64 (-1), .int .i64 (-1), .int .i64 1, .int .i64 0] := IJ.out.t.set_ 9 (.int .i64 1)
      have n2 := IJ.out.f.far (p := ⟨g0, 9, none⟩) (Nat.ne_of_gt HG01.out) (.int .i64 1)
      have n4 := IJ.out.b.setCell (p := ⟨g0, 9, none⟩) HB0.out (.int .i64 1)
      obtain ⟨X4, hX⟩ : ∃ X, wr.setCell ⟨g0, 9, none⟩ (.int .i64 1) = X := ⟨_, rfl⟩
      rw [hX] at n1 n2 n4
      have HV := Lib.hid hX
      have N1 := Lib.hid n1
      have N2 := Lib.hid n2
      have N4 := Lib.hid n4
      clear n1 n2 n4 hX IJ HT
      go_upto_region 25 with fail
      rw [HV.out]
      clear HV q0 q1 q2 q3 q4 q5 q6 q7 q8 q9 q10 ql r0 r1 r2 r3 r4 r5 r6 r7 r8 r9 r10 rl f0 f1 f2 f3 f4 f5 f6 f7 f8 f9 f10
      obtain ⟨q0, q1, q2, q3, q4, q5, q6, q7, q8, q9, q10⟩ := N1.out.c11
      have ql := N1.out.lt
      obtain ⟨r0, r1, r2, r3, r4, r5, r6, r7, r8, r9, r10⟩ := N2.out.c11
      have rl := N2.out.lt
      have e0 := eql_task ⟨id, tn, pg, 0, 0, -1, -1, -1, -1, 1, 0⟩
      unfold tc at e0
      dsimp only at e0
      have e2 := guard_task .eql
      go_wp2_with fail
      go_ret
      exact ⟨by simp, N4.out⟩

theorem lonce_any (id tn pg : Int) (A : Option Addr) (n c : Nat) (l : List Int) (w : World) (hx : Ints w A n l) (hF : Fol w) : Calls Tryd.prog 6 #[.int .i64 id, .int .i64 tn, .int .i64 pg, .slice A n c] w (TrueAns w) := by
  by_cases h2 : 200 < n
  · exact lonce_big id tn pg A n c l w hx hF h2
  · by_cases hn : okT (newT id tn pg)
    · exact lonce_go id tn pg A n c l w hx hF h2 hn
    · exact lonce_no id tn pg A n c l w hx hF h2 hn

end Go.Proofs.YtojaaoeflajdnaaDoor

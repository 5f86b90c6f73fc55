/-
  Layer 10: what is answered, as plain functions; the document's New, Take, Give, Drop.
-/
import Derived.Test.YtokmogfnliccjaaSb
import Derived.Test.YtokmogfnliccjaaHr
namespace Go.Proofs.Ytokmogfnliccjaa
open Go.RowKit

/-- What New, Take, Give and Drop answer: an error, and what is told. -/
noncomputable def newR (n : Int) : Int × Int × List Int := if 0 ≤ n ∧ n ≤ 1000 then (0, n, []) else (1, 0, [])
noncomputable def takeR (z : Int) (l : List Int) (id : Int) : Int × Bool × Int × List Int :=
  if ¬ semOk z l then (1, false, 0, []) else if id < 0 then (1, false, 0, []) else if id ∈ l then (6, false, 0, []) else if 0 < z then (0, true, z - 1, [])
  else if l.length = 256 then (7, false, 0, []) else (0, false, 0, l ++ [id])
noncomputable def giveR (z : Int) (l : List Int) : Int × Int × Int × List Int :=
  if ¬ semOk z l then (1, 0, 0, []) else if 0 < l.length then (0, nth l 0, 0, wo l (nth l 0)) else if z = 1000 then (4, 0, 0, []) else (0, -1, z + 1, [])
noncomputable def dropR (z : Int) (l : List Int) (id : Int) : Int × Int × List Int :=
  if ¬ semOk z l then (1, 0, []) else if id ∉ l then (5, 0, []) else (0, z, wo l id)

def TakeA (r : Int × Bool × Int × List Int) (w : World) (e : Ending) (w' : World) : Prop :=
  ∃ A c, e = .returned (.tuple #[.bool r.2.1, .agg #[.int .i64 r.2.2.1, .slice A r.2.2.2.length c], .int .i64 r.1]) ∧ OwnI 2 w' w.heap.size A c r.2.2.2 ∧ Below w.heap.size w w'
def GiveA (r : Int × Int × Int × List Int) (w : World) (e : Ending) (w' : World) : Prop :=
  ∃ A c, e = .returned (.tuple #[.int .i64 r.2.1, .agg #[.int .i64 r.2.2.1, .slice A r.2.2.2.length c], .int .i64 r.1]) ∧ OwnI 2 w' w.heap.size A c r.2.2.2 ∧ Below w.heap.size w w'
def SemA (r : Int × Int × List Int) (w : World) (e : Ending) (w' : World) : Prop :=
  ∃ A c, e = .returned (.tuple #[.agg #[.int .i64 r.2.1, .slice A r.2.2.length c], .int .i64 r.1]) ∧ OwnI 2 w' w.heap.size A c r.2.2 ∧ Below w.heap.size w w'

theorem OwnI.past2 {E : TypeId} {w : World} {base : Nat} {A : Option Addr} {c g : Nat} {zs : List Int} (h : OwnI E w base A c zs) (hg : g < base) (u v : Value) : OwnI E ((w.setCell ⟨g, 0, none⟩ u).setCell ⟨g, 1, none⟩ v) base A c zs := by
  have hne : ∀ n : Nat, (Value.slice A n c).ownBlock ≠ some g := fun n => by
    intro e
    have := h.block g e
    omega
  exact ⟨h.1, h.2.1, ownsRow_setCell_other (ownsRow_setCell_other h.2.2 (hne _) u) (hne _) v⟩
theorem below_set2 {W w : World} {g B : Nat} (h : Below B W w) (hg : B ≤ g) (u v : Value) : Below B W ((w.setCell ⟨g, 0, none⟩ u).setCell ⟨g, 1, none⟩ v) :=
  (h.setCell (p := ⟨g, 0, none⟩) hg u).setCell (p := ⟨g, 1, none⟩) hg v

theorem below_app0 {w w' : World} {n c : Nat} (hg : w.grownBy w' (Value.slice none n c).ownBlock) : Below w.heap.size w w' := (Below.refl w.heap.size w).grown hg (Nat.le_refl _) (by simp [Value.ownBlock])

set_option maxHeartbeats 1000000 in
theorem rnew_any (z : Int) (w : World) : Calls Try.prog 10 #[.int .i64 z] w (SemA (newR z) w) := by
  have k2 := Bk.new w 24 #[.int .i64 0, .slice none 0 0]
  have hb0 := (Below.refl w.heap.size w).alloc (Nat.le_refl _) (.cells #[.int .i64 0, .slice none 0 0] 24)
  have K2 := Lib.hid k2
  have BB := Lib.hid hb0
  clear k2 hb0
  by_cases h0 : z < 0
  · rw [show newR z = (1, 0, []) by unfold newR; rw [if_neg (by omega)]]
    have t0 : decide (z < 0) = true := decide_eq_true h0
    clear h0
    go_enter Try.func10, Try.ntmps10
    go_wp2_with fail
    have r0 := K2.out.c0
    have r1 := K2.out.c1
    have f0 := K2.out.frozen 0
    have f1 := K2.out.frozen 1
    have lr := K2.out.lt
    have HB := Lib.hid ((Below.refl w.heap.size w).alloc (Nat.le_refl _) (.cells #[.int .i64 0, .slice none 0 0] 24))
    go_wp2
    exact bodyPost_ret (v := .tuple #[.agg #[.int .i64 0, .slice none 0 0], .int .i64 1]) (by simp [results, Try.results10, go_sem, *]) rfl ⟨none, 0, rfl, OwnI.nil_ _ _ _, HB.out⟩
  · have t0 : decide (z < 0) = false := decide_eq_false h0
    by_cases h1 : 1000 < z
    · rw [show newR z = (1, 0, []) by unfold newR; rw [if_neg (by omega)]]
      have t1 : decide (1000 < z) = true := decide_eq_true h1
      clear h0 h1
      go_enter Try.func10, Try.ntmps10
      go_wp2_with fail
      have r0 := K2.out.c0
      have r1 := K2.out.c1
      have f0 := K2.out.frozen 0
      have f1 := K2.out.frozen 1
      have lr := K2.out.lt
      have HB := Lib.hid ((Below.refl w.heap.size w).alloc (Nat.le_refl _) (.cells #[.int .i64 0, .slice none 0 0] 24))
      go_wp2
      exact bodyPost_ret (v := .tuple #[.agg #[.int .i64 0, .slice none 0 0], .int .i64 1]) (by simp [results, Try.results10, go_sem, *]) rfl ⟨none, 0, rfl, OwnI.nil_ _ _ _, HB.out⟩
    · rw [show newR z = (0, z, []) by unfold newR; rw [if_pos (by omega)]]
      have t1 : decide (1000 < z) = false := decide_eq_false h1
      clear h0 h1
      go_enter Try.func10, Try.ntmps10
      go_wp2_with fail
      have r0 := K2.out.c0
      have r1 := K2.out.c1
      have f0 := K2.out.frozen 0
      have f1 := K2.out.frozen 1
      have lr := K2.out.lt
      have HB := Lib.hid ((Below.refl w.heap.size w).alloc (Nat.le_refl _) (.cells #[.int .i64 z, .slice none 0 0] 24))
      go_wp2
      exact bodyPost_ret (v := .tuple #[.agg #[.int .i64 z, .slice none 0 0], .int .i64 0]) (by simp [results, Try.results10, go_sem, *]) rfl ⟨none, 0, rfl, OwnI.nil_ _ _ _, HB.out⟩

set_option maxHeartbeats 4000000 in
theorem rtake_any (z : Int) (A : Option Addr) (n c : Nat) (l : List Int) (id : Int) (w : World) (h : SemW w z A n c l) (fid : Fit id) : Calls Try.prog 12 #[.agg #[.int .i64 z, .slice A n c], .int .i64 id] w (TakeA (takeR z l id) w) := by
  have FID := Lib.hid fid
  clear fid
  have HX0 := Lib.hid h.x
  obtain ⟨k1, k2, hb0⟩ := lies2 w #[.int .i64 z, .slice A n c] #[.int .i64 0, .slice none 0 0] 24 24
  have HX := Lib.hid (h.below hb0)
  have LX := Lib.hid h.x.1
  have hnc := h.c
  have K1 := Lib.hid k1
  have K2 := Lib.hid k2
  have BB := Lib.hid hb0
  have a0 := K1.out.c0
  have a1 := K1.out.c1
  have lg := K1.out.lt
  clear h k1 k2 hb0
  by_cases hok : semOk z l
  · have HOK := Lib.hid hok
    by_cases hid : id < 0
    · rw [show takeR z l id = (1, false, 0, []) by unfold takeR; rw [if_neg (fun q => q hok), if_pos hid]]
      have t0 : decide (id < 0) = true := decide_eq_true hid
      clear hok hid
      go_enter Try.func12, Try.ntmps12
      go_wp2_with fail
      refine (rcheck_any z _ n c l _ HX.out).mono ?_
      rw [if_pos HOK.out]
      rintro e w1 ⟨rfl, b⟩
      replace HX := Lib.hid (HX.out.below b)
      replace K1 := Lib.hid (K1.out.below b K1.out.lt)
      replace K2 := Lib.hid (K2.out.below b K2.out.lt)
      replace BB := Lib.hid (below3 BB.out b)
      clear b a0 a1 lg
      have a0 := K1.out.c0
      have a1 := K1.out.c1
      have lg := K1.out.lt
      have r0 := K2.out.c0
      have r1 := K2.out.c1
      have f0 := K2.out.frozen 0
      have f1 := K2.out.frozen 1
      have lr := K2.out.lt
      have HB := Lib.hid (below_set2 (g := w.heap.size + 1) BB.out (Nat.le_succ _) (.int .i64 0) (.slice none 0 0))
      go_wp2
      exact bodyPost_ret (v := .tuple #[.bool false, .agg #[.int .i64 0, .slice none 0 0], .int .i64 1]) (by simp [results, Try.results12, go_sem, *]) rfl ⟨none, 0, rfl, OwnI.nil_ _ _ _, HB.out⟩
    · have t0 : decide (id < 0) = false := decide_eq_false hid
      by_cases hm : id ∈ l
      · rw [show takeR z l id = (6, false, 0, []) by unfold takeR; rw [if_neg (fun q => q hok), if_neg hid, if_pos hm]]
        have HM := Lib.hid (hasB_yes hm)
        clear hok hid hm
        go_enter Try.func12, Try.ntmps12
        go_wp2_with fail
        refine (rcheck_any z _ n c l _ HX.out).mono ?_
        rw [if_pos HOK.out]
        rintro e w1 ⟨rfl, b⟩
        replace HX := Lib.hid (HX.out.below b)
        replace K1 := Lib.hid (K1.out.below b K1.out.lt)
        replace K2 := Lib.hid (K2.out.below b K2.out.lt)
        replace BB := Lib.hid (below3 BB.out b)
        clear b a0 a1 lg
        have a0 := K1.out.c0
        have a1 := K1.out.c1
        have lg := K1.out.lt
        go_wp2_with fail
        refine (rhas_any A n c l id _ HX.out.x).mono ?_
        rw [HM.out]
        rintro e w2 ⟨rfl, b⟩
        replace HX := Lib.hid (HX.out.below b)
        replace K1 := Lib.hid (K1.out.below b K1.out.lt)
        replace K2 := Lib.hid (K2.out.below b K2.out.lt)
        replace BB := Lib.hid (below3 BB.out b)
        clear b a0 a1 lg
        have a0 := K1.out.c0
        have a1 := K1.out.c1
        have lg := K1.out.lt
        have r0 := K2.out.c0
        have r1 := K2.out.c1
        have f0 := K2.out.frozen 0
        have f1 := K2.out.frozen 1
        have lr := K2.out.lt
        have HB := Lib.hid (below_set2 (g := w.heap.size + 1) BB.out (Nat.le_succ _) (.int .i64 0) (.slice none 0 0))
        go_wp2
        exact bodyPost_ret (v := .tuple #[.bool false, .agg #[.int .i64 0, .slice none 0 0], .int .i64 6]) (by simp [results, Try.results12, go_sem, *]) rfl ⟨none, 0, rfl, OwnI.nil_ _ _ _, HB.out⟩
      · have HM := Lib.hid (hasB_no hm)
        by_cases h0 : 0 < z
        · rw [show takeR z l id = (0, true, z - 1, []) by unfold takeR; rw [if_neg (fun q => q hok), if_neg hid, if_neg hm, if_pos h0]]
          have t1 : decide (0 < z) = true := decide_eq_true h0
          have hz1 : z - 1 ≤ 9223372036854775807 ∧ -9223372036854775808 ≤ z - 1 := by have := hok.2.1; omega
          clear hok hid hm h0
          go_enter Try.func12, Try.ntmps12
          go_wp2_with fail
          refine (rcheck_any z _ n c l _ HX.out).mono ?_
          rw [if_pos HOK.out]
          rintro e w1 ⟨rfl, b⟩
          replace HX := Lib.hid (HX.out.below b)
          replace K1 := Lib.hid (K1.out.below b K1.out.lt)
          replace K2 := Lib.hid (K2.out.below b K2.out.lt)
          replace BB := Lib.hid (below3 BB.out b)
          clear b a0 a1 lg
          have a0 := K1.out.c0
          have a1 := K1.out.c1
          have lg := K1.out.lt
          go_wp2_with fail
          refine (rhas_any A n c l id _ HX.out.x).mono ?_
          rw [HM.out]
          rintro e w2 ⟨rfl, b⟩
          replace HX := Lib.hid (HX.out.below b)
          replace K1 := Lib.hid (K1.out.below b K1.out.lt)
          replace K2 := Lib.hid (K2.out.below b K2.out.lt)
          replace BB := Lib.hid (below3 BB.out b)
          clear b a0 a1 lg
          have a0 := K1.out.c0
          have a1 := K1.out.c1
          have lg := K1.out.lt
          go_wp2_with fail
          have r0 := K2.out.c0
          have r1 := K2.out.c1
          have f0 := K2.out.frozen 0
          have f1 := K2.out.frozen 1
          have lr := K2.out.lt
          have HB := Lib.hid (below_set2 (g := w.heap.size + 1) BB.out (Nat.le_succ _) (.int .i64 (z - 1)) (.slice none 0 0))
          go_region
          go_wp2
          exact bodyPost_ret (v := .tuple #[.bool true, .agg #[.int .i64 (z - 1), .slice none 0 0], .int .i64 0]) (by simp [results, Try.results12, go_sem, *]) rfl ⟨none, 0, rfl, OwnI.nil_ _ _ _, HB.out.drew⟩
        · have t1 : decide (0 < z) = false := decide_eq_false h0
          by_cases h6 : l.length = 256
          · rw [show takeR z l id = (7, false, 0, []) by unfold takeR; rw [if_neg (fun q => q hok), if_neg hid, if_neg hm, if_neg h0, if_pos h6]]
            have hn6 : ((n : Int) == 256) = true := by rw [← LX.out]; simp; omega
            clear hok hid hm h0 h6
            go_enter Try.func12, Try.ntmps12
            go_wp2_with fail
            refine (rcheck_any z _ n c l _ HX.out).mono ?_
            rw [if_pos HOK.out]
            rintro e w1 ⟨rfl, b⟩
            replace HX := Lib.hid (HX.out.below b)
            replace K1 := Lib.hid (K1.out.below b K1.out.lt)
            replace K2 := Lib.hid (K2.out.below b K2.out.lt)
            replace BB := Lib.hid (below3 BB.out b)
            clear b a0 a1 lg
            have a0 := K1.out.c0
            have a1 := K1.out.c1
            have lg := K1.out.lt
            go_wp2_with fail
            refine (rhas_any A n c l id _ HX.out.x).mono ?_
            rw [HM.out]
            rintro e w2 ⟨rfl, b⟩
            replace HX := Lib.hid (HX.out.below b)
            replace K1 := Lib.hid (K1.out.below b K1.out.lt)
            replace K2 := Lib.hid (K2.out.below b K2.out.lt)
            replace BB := Lib.hid (below3 BB.out b)
            clear b a0 a1 lg
            have a0 := K1.out.c0
            have a1 := K1.out.c1
            have lg := K1.out.lt
            have r0 := K2.out.c0
            have r1 := K2.out.c1
            have f0 := K2.out.frozen 0
            have f1 := K2.out.frozen 1
            have lr := K2.out.lt
            have HB := Lib.hid (below_set2 (g := w.heap.size + 1) BB.out (Nat.le_succ _) (.int .i64 0) (.slice none 0 0))
            go_wp2
            exact bodyPost_ret (v := .tuple #[.bool false, .agg #[.int .i64 0, .slice none 0 0], .int .i64 7]) (by simp [results, Try.results12, go_sem, *]) rfl ⟨none, 0, rfl, OwnI.nil_ _ _ _, HB.out⟩
          · rw [show takeR z l id = (0, false, 0, l ++ [id]) by unfold takeR; rw [if_neg (fun q => q hok), if_neg hid, if_neg hm, if_neg h0, if_neg h6]]
            have hn6 : ((n : Int) == 256) = false := by rw [← LX.out]; simp; omega
            have hn256 : n ≤ 256 := by rw [← LX.out]; exact hok.2.2.1
            clear hok hid hm h0 h6
            go_enter Try.func12, Try.ntmps12
            go_wp2_with fail
            refine (rcheck_any z _ n c l _ HX.out).mono ?_
            rw [if_pos HOK.out]
            rintro e w1 ⟨rfl, b⟩
            replace HX := Lib.hid (HX.out.below b)
            replace K1 := Lib.hid (K1.out.below b K1.out.lt)
            replace K2 := Lib.hid (K2.out.below b K2.out.lt)
            replace BB := Lib.hid (below3 BB.out b)
            clear b a0 a1 lg
            have a0 := K1.out.c0
            have a1 := K1.out.c1
            have lg := K1.out.lt
            go_wp2_with fail
            refine (rhas_any A n c l id _ HX.out.x).mono ?_
            rw [HM.out]
            rintro e w2 ⟨rfl, b⟩
            replace HX := Lib.hid (HX.out.below b)
            replace K1 := Lib.hid (K1.out.below b K1.out.lt)
            replace K2 := Lib.hid (K2.out.below b K2.out.lt)
            replace BB := Lib.hid (below3 BB.out b)
            clear b a0 a1 lg
            have a0 := K1.out.c0
            have a1 := K1.out.c1
            have lg := K1.out.lt
            have HXB := Lib.hid HX.out.x
            have HSW := Lib.hid K2.out.lt
            go_wp2_with (first
              | (at_builtin; refine wpList_append_ints _ rfl _ _ 22 rfl 2 Try.underlying22 infoI8 w2.heap.size none 0 [] 0 rfl rfl (OwnI.nil_ _ _ _) A n c l rfl HXB.out (by simp; omega) (by simp) ?_; intro A3 c3 w3 ho hgr; rw [List.nil_append] at ho ⊢; have HS3 := Lib.hid (below_app0 hgr).size; have O3 := Lib.hid (ho.below ((Below.refl w3.heap.size w3).alloc (Nat.le_refl _) (.cells #[.int .i64 id] 2))); have B3 := Lib.hid ((below_app0 hgr).alloc HS3.out (.cells #[.int .i64 id] 2)); have T3 := Lib.hid (ints1 w3 2 FID.out); clear ho hgr HXB a0 a1 lg)
              | (at_builtin; refine wpList_append_ints _ rfl _ _ 22 rfl 2 Try.underlying22 infoI8 w2.heap.size A3 c3 l _ rfl rfl O3.out (some ⟨w3.heap.size, 0, none⟩) 1 1 [id] rfl T3.out (by rw [LX.out]; omega) (by have := HS3.out; simp; omega) ?_; intro A4 c4 w4 ho hgr; have O4 := Lib.hid ho; have B4 := Lib.hid (below_app B3.out O3.out hgr B3.out.size); clear ho hgr T3 O3 B3; replace K2 := Lib.hid (K2.out.below B4.out K2.out.lt); have HS4 := Lib.hid K2.out.lt; replace BB := Lib.hid (below3 BB.out B4.out); have r0 := K2.out.c0; have r1 := K2.out.c1; have f0 := K2.out.frozen 0; have f1 := K2.out.frozen 1; have lr := K2.out.lt))
            obtain HB := Lib.hid (below_set2 (g := w.heap.size + 1) BB.out (Nat.le_succ _) (.int .i64 0) (.slice A4 (l.length + 1) c4))
            exact bodyPost_ret (v := .tuple #[.bool false, .agg #[.int .i64 0, .slice A4 (l ++ [id]).length c4], .int .i64 0]) (by simp [results, Try.results12, go_sem, *]) rfl ⟨A4, c4, rfl, (OwnI.past2 (g := w.heap.size + 1) O4.out HSW.out (.int .i64 0) (.slice A4 (l.length + 1) c4)).base (Nat.le_of_lt (Nat.lt_trans (Nat.lt_succ_self _) HSW.out)), HB.out⟩
  · rw [show takeR z l id = (1, false, 0, []) by unfold takeR; rw [if_pos hok]]
    have HNO := Lib.hid hok
    clear hok
    go_enter Try.func12, Try.ntmps12
    go_wp2_with fail
    refine (rcheck_any z _ n c l _ HX.out).mono ?_
    rw [if_neg HNO.out]
    rintro e w1 ⟨rfl, b⟩
    replace HX := Lib.hid (HX.out.below b)
    replace K1 := Lib.hid (K1.out.below b K1.out.lt)
    replace K2 := Lib.hid (K2.out.below b K2.out.lt)
    replace BB := Lib.hid (below3 BB.out b)
    clear b a0 a1 lg
    have a0 := K1.out.c0
    have a1 := K1.out.c1
    have lg := K1.out.lt
    have r0 := K2.out.c0
    have r1 := K2.out.c1
    have f0 := K2.out.frozen 0
    have f1 := K2.out.frozen 1
    have lr := K2.out.lt
    have HB := Lib.hid (below_set2 (g := w.heap.size + 1) BB.out (Nat.le_succ _) (.int .i64 0) (.slice none 0 0))
    go_wp2
    exact bodyPost_ret (v := .tuple #[.bool false, .agg #[.int .i64 0, .slice none 0 0], .int .i64 1]) (by simp [results, Try.results12, go_sem, *]) rfl ⟨none, 0, rfl, OwnI.nil_ _ _ _, HB.out⟩

/-- What a drawn region reads: the box of a semaphore, and the first one that waits. -/
structure SG (g : Nat) (z : Int) (A : Option Addr) (n c b o : Nat) (x : Int) (U : World) : Prop where
  q0 : U.cell? ⟨g, 0, none⟩ = some (.int .i64 z)
  q1 : U.cell? ⟨g, 1, none⟩ = some (.slice A n c)
  qx : U.cell? ⟨b, o, none⟩ = some (.int .i64 x)
  lg : g < U.heap.size
  lb : b < U.heap.size
section
variable {g n c b o : Nat} {z x : Int} {A : Option Addr} {U U' : World}
theorem SG.below (h : SG g z A n c b o x U) (hb : Below U.heap.size U U') : SG g z A n c b o x U' :=
  ⟨(hb.cell (p := ⟨g, 0, none⟩) h.lg).trans h.q0, (hb.cell (p := ⟨g, 1, none⟩) h.lg).trans h.q1, (hb.cell (p := ⟨b, o, none⟩) h.lb).trans h.qx, Nat.lt_of_lt_of_le h.lg hb.size, Nat.lt_of_lt_of_le h.lb hb.size⟩
theorem cell_set2 {p : Addr} {k : Nat} (hp : p.block ≠ k) (u v : Value) : ((U.setCell ⟨k, 0, none⟩ u).setCell ⟨k, 1, none⟩ v).cell? p = U.cell? p := by
  rw [World.cell?_setCell_other _ _ _ _ (by intro e; exact hp (by rw [← e])), World.cell?_setCell_other _ _ _ _ (by intro e; exact hp (by rw [← e]))]
theorem SG.far (h : SG g z A n c b o x U) {k : Nat} (h1 : g ≠ k) (h2 : b ≠ k) (u v : Value) : SG g z A n c b o x ((U.setCell ⟨k, 0, none⟩ u).setCell ⟨k, 1, none⟩ v) :=
  ⟨(cell_set2 (by exact h1) u v).trans h.q0, (cell_set2 (by exact h1) u v).trans h.q1, (cell_set2 (by exact h2) u v).trans h.qx, by simpa [World.setCell] using h.lg, by simpa [World.setCell] using h.lb⟩
end

set_option maxHeartbeats 4000000 in
theorem rgive_any (z : Int) (A : Option Addr) (n c : Nat) (l : List Int) (w : World) (h : SemW w z A n c l) : Calls Try.prog 14 #[.agg #[.int .i64 z, .slice A n c]] w (GiveA (giveR z l) w) := by
  have HX0 := Lib.hid h.x
  obtain ⟨k1, k2, hb0⟩ := lies2 w #[.int .i64 z, .slice A n c] #[.int .i64 0, .slice none 0 0] 24 24
  have HX := Lib.hid (h.below hb0)
  have LX := Lib.hid h.x.1
  have hnc := h.c
  have K1 := Lib.hid k1
  have K2 := Lib.hid k2
  have BB := Lib.hid hb0
  have a0 := K1.out.c0
  have a1 := K1.out.c1
  have lg := K1.out.lt
  clear h k1 k2 hb0
  by_cases hok : semOk z l
  · have HOK := Lib.hid hok
    by_cases h0 : 0 < n
    · obtain ⟨x, hx⟩ : ∃ x, nth l 0 = x := ⟨_, rfl⟩
      rw [show giveR z l = (0, x, 0, wo l x) by unfold giveR; rw [if_neg (fun q => q hok), if_pos (by rw [LX.out]; exact h0), hx]]
      have HXE := Lib.hid hx
      obtain ⟨ws, hws⟩ : ∃ ws, wo l x = ws := ⟨_, rfl⟩
      rw [hws]
      have HWS := Lib.hid hws
      obtain ⟨b, o, rfl, hb0, -⟩ := HX0.out.at_ h0
      have HBN := Lib.hid (show b ≠ w.heap.size + 1 from by omega)
      clear hok hx hws hb0 HX0
      go_enter Try.func14, Try.ntmps14
      go_wp2_with fail
      refine (rcheck_any z _ n c l _ HX.out).mono ?_
      rw [if_pos HOK.out]
      rintro e w1 ⟨rfl, b⟩
      replace HX := Lib.hid (HX.out.below b)
      replace K1 := Lib.hid (K1.out.below b K1.out.lt)
      replace K2 := Lib.hid (K2.out.below b K2.out.lt)
      replace BB := Lib.hid (below3 BB.out b)
      clear b a0 a1 lg
      have a0 := K1.out.c0
      have a1 := K1.out.c1
      have lg := K1.out.lt
      go_wp2_with fail
      obtain ⟨b', o', e', hb, hc⟩ := HX.out.x.at_ h0
      injection e' with e'
      injection e' with e1 e2 _
      subst e1 e2
      rw [Nat.add_zero, HXE.out] at hc
      refine wp_region_held (S := SG w.heap.size z (some ⟨b, o, none⟩) n c b o x) (by kernel_rfl) ?_
      change wpAnyH _ _ _ _ _ _ _ _ (World.drew w1)
      have hS1 : SG w.heap.size z (some ⟨b, o, none⟩) n c b o x (World.drew w1) := ⟨a0, a1, hc, lg, hb⟩
      have HX1 := Lib.hid (HX.out.below (Below.refl _ _).drew)
      have K21 := Lib.hid K2.out.drew
      have BB1 := Lib.hid BB.out.drew
      generalize World.drew w1 = U1 at hS1 HX1 K21 BB1 ⊢
      clear hb hc a0 a1 lg HX K1 K2 BB
      refine take_at (i := 0) (d := 13) (v := .pointer (some ⟨w.heap.size, 1, none⟩)) rfl rfl (by kernel_rfl) (by kernel_rfl) (by kernel_rfl) (fun _ _ _ h => h) (.inl ⟨by kernel_rfl, fun U hU => by go_simp⟩) hS1 ?_
      simp only [Act.put, List.setIfInBounds_toArray, List.set_cons_zero, List.set_cons_succ]
      refine take_at (i := 1) (d := 14) (v := .slice (some ⟨b, o, none⟩) n c) rfl rfl (by kernel_rfl) (by kernel_rfl) (by kernel_rfl) (fun _ _ _ h => h) (.inl ⟨by kernel_rfl, fun U hU => by obtain ⟨q0, q1, qx, ql, qb⟩ := hU; go_simp⟩) hS1 ?_
      simp only [Act.put, List.setIfInBounds_toArray, List.set_cons_zero, List.set_cons_succ]
      refine take_at (i := 2) (d := 15) (v := .pointer (some ⟨b, o, none⟩)) rfl rfl (by kernel_rfl) (by kernel_rfl) (by kernel_rfl) (fun _ _ _ h => h) (.inl ⟨by kernel_rfl, fun U hU => by go_simp⟩) hS1 ?_
      simp only [Act.put, List.setIfInBounds_toArray, List.set_cons_zero, List.set_cons_succ]
      refine take_at (i := 3) (d := 16) (v := .int .i64 x) rfl rfl (by kernel_rfl) (by kernel_rfl) (by kernel_rfl) (fun _ _ _ h => h) (.inl ⟨by kernel_rfl, fun U hU => by obtain ⟨q0, q1, qx, ql, qb⟩ := hU; go_simp⟩) hS1 ?_
      simp only [Act.put, List.setIfInBounds_toArray, List.set_cons_zero, List.set_cons_succ]
      refine take_at (i := 4) (d := 17) (v := .pointer (some ⟨w.heap.size, 1, none⟩)) rfl rfl (by kernel_rfl) (by kernel_rfl) (by kernel_rfl) (fun _ _ _ h => h) (.inl ⟨by kernel_rfl, fun U hU => by go_simp⟩) hS1 ?_
      simp only [Act.put, List.setIfInBounds_toArray, List.set_cons_zero, List.set_cons_succ]
      refine take_at (i := 5) (d := 18) (v := .slice (some ⟨b, o, none⟩) n c) rfl rfl (by kernel_rfl) (by kernel_rfl) (by kernel_rfl) (fun _ _ _ h => h) (.inl ⟨by kernel_rfl, fun U hU => by obtain ⟨q0, q1, qx, ql, qb⟩ := hU; go_simp⟩) hS1 ?_
      simp only [Act.put, List.setIfInBounds_toArray, List.set_cons_zero, List.set_cons_succ]
      refine take_at (i := 6) (d := 19) (v := .pointer (some ⟨w.heap.size, 1, none⟩)) rfl rfl (by kernel_rfl) (by kernel_rfl) (by kernel_rfl) (fun _ _ _ h => h) (.inl ⟨by kernel_rfl, fun U hU => by go_simp⟩) hS1 ?_
      simp only [Act.put, List.setIfInBounds_toArray, List.set_cons_zero, List.set_cons_succ]
      refine take_at (i := 7) (d := 20) (v := .slice (some ⟨b, o, none⟩) n c) rfl rfl (by kernel_rfl) (by kernel_rfl) (by kernel_rfl) (fun _ _ _ h => h) (.inl ⟨by kernel_rfl, fun U hU => by obtain ⟨q0, q1, qx, ql, qb⟩ := hU; go_simp⟩) hS1 ?_
      simp only [Act.put, List.setIfInBounds_toArray, List.set_cons_zero, List.set_cons_succ]
      refine take_at (i := 8) (d := 21) (v := .pointer (some ⟨b, o, none⟩)) rfl rfl (by kernel_rfl) (by kernel_rfl) (by kernel_rfl) (fun _ _ _ h => h) (.inl ⟨by kernel_rfl, fun U hU => by go_simp⟩) hS1 ?_
      simp only [Act.put, List.setIfInBounds_toArray, List.set_cons_zero, List.set_cons_succ]
      refine take_at (i := 9) (d := 22) (v := .int .i64 x) rfl rfl (by kernel_rfl) (by kernel_rfl) (by kernel_rfl) (fun _ _ _ h => h) (.inl ⟨by kernel_rfl, fun U hU => by obtain ⟨q0, q1, qx, ql, qb⟩ := hU; go_simp⟩) hS1 ?_
      simp only [Act.put, List.setIfInBounds_toArray, List.set_cons_zero, List.set_cons_succ]
      refine wpAnyH_all (rs := [10]) (by kernel_rfl) (by simp) ?_
      intro i hi
      simp only [List.mem_cons, List.not_mem_nil, or_false] at hi
      subst hi
      unfold wpOp
      go_simp
      left
      refine (rwo_any (some ⟨b, o, none⟩) n c l x _ HX1.out.x).mono ?_
      rw [HWS.out]
      rintro e U2 ⟨A3, c3, rfl, o3, b3⟩
      have hS2 := hS1.below b3
      have O3 := Lib.hid o3
      have K3 := Lib.hid (K21.out.below b3 K21.out.lt)
      have BF := Lib.hid (below3 BB1.out b3)
      have HSW := Lib.hid K21.out.lt
      refine ⟨hS2, ?_⟩
      clear o3 b3 hS1 K21 BB1 HX1
      refine take_at (i := 12) (d := 2) (v := .int .i64 x) rfl rfl (by kernel_rfl) (by kernel_rfl) (by kernel_rfl) (fun _ _ _ h => h) (.inl ⟨by kernel_rfl, fun U hU => by go_simp⟩) hS2 ?_
      simp only [Act.put, List.setIfInBounds_toArray, List.set_cons_zero, List.set_cons_succ]
      refine take_at (i := 11) (d := 24) (v := .agg #[.int .i64 0, .slice A3 ws.length c3]) rfl rfl (by kernel_rfl) (by kernel_rfl) (by kernel_rfl) (fun _ _ _ h => h) (.inl ⟨by kernel_rfl, fun U hU => by go_simp⟩) hS2 ?_
      simp only [Act.put, List.setIfInBounds_toArray, List.set_cons_zero, List.set_cons_succ]
      have r0 := K3.out.c0
      have r1 := K3.out.c1
      have f0 := K3.out.frozen 0
      have f1 := K3.out.frozen 1
      have lr := K3.out.lt
      have hS9 := Lib.hid (hS2.far (k := w.heap.size + 1) (by omega) HBN.out (.int .i64 0) (.slice A3 ws.length c3))
      have HB := Lib.hid (below_set2 (g := w.heap.size + 1) BF.out (Nat.le_succ _) (.int .i64 0) (.slice A3 ws.length c3))
      have HN := Lib.hid ((OwnI.past2 (g := w.heap.size + 1) O3.out HSW.out (.int .i64 0) (.slice A3 ws.length c3)).base (Nat.le_of_lt (Nat.lt_trans (Nat.lt_succ_self _) HSW.out)))
      have KF := Lib.hid ((K3.out.set_ 0 (.int .i64 0)).set_ 1 (.slice A3 ws.length c3))
      clear hS2
      refine wpAnyH_all (rs := [13]) (by kernel_rfl) (by simp) ?_
      intro i hi
      simp only [List.mem_cons, List.not_mem_nil, or_false] at hi
      subst hi
      unfold wpOp
      go_simp
      left
      refine ⟨hS9.out, ?_⟩
      clear r0 r1 f0 f1 lr
      refine take_at (i := 14) (d := 4) (v := .int .i64 0) rfl rfl (by kernel_rfl) (by kernel_rfl) (by kernel_rfl) (fun _ _ _ h => h) (.inl ⟨by kernel_rfl, fun U hU => by go_simp⟩) hS9.out ?_
      simp only [Act.put, List.setIfInBounds_toArray, List.set_cons_zero, List.set_cons_succ]
      refine wpAnyH_done (by kernel_rfl) ?_ _
      go_wp2
      have r0 := KF.out.c0
      have r1 := KF.out.c1
      exact bodyPost_ret (v := .tuple #[.int .i64 x, .agg #[.int .i64 0, .slice A3 ws.length c3], .int .i64 0]) (by simp [results, Try.results14, go_sem, r0, r1]) rfl ⟨A3, c3, rfl, HN.out, HB.out⟩
    · by_cases h1 : z = 1000
      · rw [show giveR z l = (4, 0, 0, []) by unfold giveR; rw [if_neg (fun q => q hok), if_neg (by rw [LX.out]; exact h0), if_pos h1]]
        have t1 : (z == 1000) = true := by simpa using h1
        clear hok h1
        go_enter Try.func14, Try.ntmps14
        go_wp2_with fail
        refine (rcheck_any z _ n c l _ HX.out).mono ?_
        rw [if_pos HOK.out]
        rintro e w1 ⟨rfl, b⟩
        replace HX := Lib.hid (HX.out.below b)
        replace K1 := Lib.hid (K1.out.below b K1.out.lt)
        replace K2 := Lib.hid (K2.out.below b K2.out.lt)
        replace BB := Lib.hid (below3 BB.out b)
        clear b a0 a1 lg
        have a0 := K1.out.c0
        have a1 := K1.out.c1
        have lg := K1.out.lt
        have r0 := K2.out.c0
        have r1 := K2.out.c1
        have f0 := K2.out.frozen 0
        have f1 := K2.out.frozen 1
        have lr := K2.out.lt
        have HB := Lib.hid (below_set2 (g := w.heap.size + 1) BB.out (Nat.le_succ _) (.int .i64 0) (.slice none 0 0))
        go_wp2
        exact bodyPost_ret (v := .tuple #[.int .i64 0, .agg #[.int .i64 0, .slice none 0 0], .int .i64 4]) (by simp [results, Try.results14, go_sem, *]) rfl ⟨none, 0, rfl, OwnI.nil_ _ _ _, HB.out⟩
      · rw [show giveR z l = (0, -1, z + 1, []) by unfold giveR; rw [if_neg (fun q => q hok), if_neg (by rw [LX.out]; exact h0), if_neg h1]]
        have t1 : (z == 1000) = false := by simpa using h1
        have hz1 : z + 1 ≤ 9223372036854775807 ∧ -9223372036854775808 ≤ z + 1 := by have := hok.1; have := hok.2.1; omega
        clear hok h1
        go_enter Try.func14, Try.ntmps14
        go_wp2_with fail
        refine (rcheck_any z _ n c l _ HX.out).mono ?_
        rw [if_pos HOK.out]
        rintro e w1 ⟨rfl, b⟩
        replace HX := Lib.hid (HX.out.below b)
        replace K1 := Lib.hid (K1.out.below b K1.out.lt)
        replace K2 := Lib.hid (K2.out.below b K2.out.lt)
        replace BB := Lib.hid (below3 BB.out b)
        clear b a0 a1 lg
        have a0 := K1.out.c0
        have a1 := K1.out.c1
        have lg := K1.out.lt
        go_wp2_with fail
        have r0 := K2.out.c0
        have r1 := K2.out.c1
        have f0 := K2.out.frozen 0
        have f1 := K2.out.frozen 1
        have lr := K2.out.lt
        have HB := Lib.hid (below_set2 (g := w.heap.size + 1) BB.out (Nat.le_succ _) (.int .i64 (z + 1)) (.slice none 0 0))
        go_region
        go_wp2
        exact bodyPost_ret (v := .tuple #[.int .i64 (-1), .agg #[.int .i64 (z + 1), .slice none 0 0], .int .i64 0]) (by simp [results, Try.results14, go_sem, *]) rfl ⟨none, 0, rfl, OwnI.nil_ _ _ _, HB.out.drew⟩
  · rw [show giveR z l = (1, 0, 0, []) by unfold giveR; rw [if_pos hok]]
    have HNO := Lib.hid hok
    clear hok
    go_enter Try.func14, Try.ntmps14
    go_wp2_with fail
    refine (rcheck_any z _ n c l _ HX.out).mono ?_
    rw [if_neg HNO.out]
    rintro e w1 ⟨rfl, b⟩
    replace HX := Lib.hid (HX.out.below b)
    replace K1 := Lib.hid (K1.out.below b K1.out.lt)
    replace K2 := Lib.hid (K2.out.below b K2.out.lt)
    replace BB := Lib.hid (below3 BB.out b)
    clear b a0 a1 lg
    have a0 := K1.out.c0
    have a1 := K1.out.c1
    have lg := K1.out.lt
    have r0 := K2.out.c0
    have r1 := K2.out.c1
    have f0 := K2.out.frozen 0
    have f1 := K2.out.frozen 1
    have lr := K2.out.lt
    have HB := Lib.hid (below_set2 (g := w.heap.size + 1) BB.out (Nat.le_succ _) (.int .i64 0) (.slice none 0 0))
    go_wp2
    exact bodyPost_ret (v := .tuple #[.int .i64 0, .agg #[.int .i64 0, .slice none 0 0], .int .i64 1]) (by simp [results, Try.results14, go_sem, *]) rfl ⟨none, 0, rfl, OwnI.nil_ _ _ _, HB.out⟩

set_option maxHeartbeats 4000000 in
theorem rdrop_any (z : Int) (A : Option Addr) (n c : Nat) (l : List Int) (id : Int) (w : World) (h : SemW w z A n c l) : Calls Try.prog 16 #[.agg #[.int .i64 z, .slice A n c], .int .i64 id] w (SemA (dropR z l id) w) := by
  have HX0 := Lib.hid h.x
  obtain ⟨k1, k2, hb0⟩ := lies2 w #[.int .i64 z, .slice A n c] #[.int .i64 0, .slice none 0 0] 24 24
  have HX := Lib.hid (h.below hb0)
  have LX := Lib.hid h.x.1
  have hnc := h.c
  have K1 := Lib.hid k1
  have K2 := Lib.hid k2
  have BB := Lib.hid hb0
  have a0 := K1.out.c0
  have a1 := K1.out.c1
  have lg := K1.out.lt
  clear h k1 k2 hb0
  by_cases hok : semOk z l
  · have HOK := Lib.hid hok
    by_cases hm : id ∈ l
    · rw [show dropR z l id = (0, z, wo l id) by unfold dropR; rw [if_neg (fun q => q hok), if_neg (fun q => q hm)]]
      have HM := Lib.hid (hasB_yes hm)
      have h0 : 0 < n := by rw [← LX.out]; exact List.length_pos_of_mem hm
      obtain ⟨x, hx⟩ : ∃ x, nth l 0 = x := ⟨_, rfl⟩
      have HXE := Lib.hid hx
      obtain ⟨ws, hws⟩ : ∃ ws, wo l id = ws := ⟨_, rfl⟩
      rw [hws]
      have HWS := Lib.hid hws
      obtain ⟨b, o, rfl, hb0, -⟩ := HX0.out.at_ h0
      have HBN := Lib.hid (show b ≠ w.heap.size + 1 from by omega)
      clear hok hm hx hws hb0 HX0
      go_enter Try.func16, Try.ntmps16
      go_wp2_with fail
      refine (rcheck_any z _ n c l _ HX.out).mono ?_
      rw [if_pos HOK.out]
      rintro e w1 ⟨rfl, b⟩
      replace HX := Lib.hid (HX.out.below b)
      replace K1 := Lib.hid (K1.out.below b K1.out.lt)
      replace K2 := Lib.hid (K2.out.below b K2.out.lt)
      replace BB := Lib.hid (below3 BB.out b)
      clear b a0 a1 lg
      have a0 := K1.out.c0
      have a1 := K1.out.c1
      have lg := K1.out.lt
      go_wp2_with fail
      refine (rhas_any (some ⟨b, o, none⟩) n c l id _ HX.out.x).mono ?_
      rw [HM.out]
      rintro e w2 ⟨rfl, b⟩
      replace HX := Lib.hid (HX.out.below b)
      replace K1 := Lib.hid (K1.out.below b K1.out.lt)
      replace K2 := Lib.hid (K2.out.below b K2.out.lt)
      replace BB := Lib.hid (below3 BB.out b)
      clear b a0 a1 lg
      have a0 := K1.out.c0
      have a1 := K1.out.c1
      have lg := K1.out.lt
      go_wp2_with fail
      obtain ⟨b', o', e', hb, hc⟩ := HX.out.x.at_ h0
      injection e' with e'
      injection e' with e1 e2 _
      subst e1 e2
      rw [Nat.add_zero, HXE.out] at hc
      refine wp_region_held (S := SG w.heap.size z (some ⟨b, o, none⟩) n c b o x) (by kernel_rfl) ?_
      change wpAnyH _ _ _ _ _ _ _ _ (World.drew w2)
      have hS1 : SG w.heap.size z (some ⟨b, o, none⟩) n c b o x (World.drew w2) := ⟨a0, a1, hc, lg, hb⟩
      have HX1 := Lib.hid (HX.out.below (Below.refl _ _).drew)
      have K21 := Lib.hid K2.out.drew
      have BB1 := Lib.hid BB.out.drew
      generalize World.drew w2 = U1 at hS1 HX1 K21 BB1 ⊢
      clear hb hc a0 a1 lg HX K1 K2 BB
      refine take_at (i := 0) (d := 16) (v := .pointer (some ⟨w.heap.size, 0, none⟩)) rfl rfl (by kernel_rfl) (by kernel_rfl) (by kernel_rfl) (fun _ _ _ h => h) (.inl ⟨by kernel_rfl, fun U hU => by go_simp⟩) hS1 ?_
      simp only [Act.put, List.setIfInBounds_toArray, List.set_cons_zero, List.set_cons_succ]
      refine take_at (i := 1) (d := 17) (v := .int .i64 z) rfl rfl (by kernel_rfl) (by kernel_rfl) (by kernel_rfl) (fun _ _ _ h => h) (.inl ⟨by kernel_rfl, fun U hU => by obtain ⟨q0, q1, qx, ql, qb⟩ := hU; go_simp⟩) hS1 ?_
      simp only [Act.put, List.setIfInBounds_toArray, List.set_cons_zero, List.set_cons_succ]
      refine take_at (i := 2) (d := 18) (v := .pointer (some ⟨w.heap.size, 1, none⟩)) rfl rfl (by kernel_rfl) (by kernel_rfl) (by kernel_rfl) (fun _ _ _ h => h) (.inl ⟨by kernel_rfl, fun U hU => by go_simp⟩) hS1 ?_
      simp only [Act.put, List.setIfInBounds_toArray, List.set_cons_zero, List.set_cons_succ]
      refine take_at (i := 3) (d := 19) (v := .slice (some ⟨b, o, none⟩) n c) rfl rfl (by kernel_rfl) (by kernel_rfl) (by kernel_rfl) (fun _ _ _ h => h) (.inl ⟨by kernel_rfl, fun U hU => by obtain ⟨q0, q1, qx, ql, qb⟩ := hU; go_simp⟩) hS1 ?_
      simp only [Act.put, List.setIfInBounds_toArray, List.set_cons_zero, List.set_cons_succ]
      refine take_at (i := 4) (d := 20) (v := .int .i64 id) rfl rfl (by kernel_rfl) (by kernel_rfl) (by kernel_rfl) (fun _ _ _ h => h) (.inl ⟨by kernel_rfl, fun U hU => by go_simp⟩) hS1 ?_
      simp only [Act.put, List.setIfInBounds_toArray, List.set_cons_zero, List.set_cons_succ]
      refine wpAnyH_all (rs := [5]) (by kernel_rfl) (by simp) ?_
      intro i hi
      simp only [List.mem_cons, List.not_mem_nil, or_false] at hi
      subst hi
      unfold wpOp
      go_simp
      left
      refine (rwo_any (some ⟨b, o, none⟩) n c l id _ HX1.out.x).mono ?_
      rw [HWS.out]
      rintro e U2 ⟨A3, c3, rfl, o3, b3⟩
      have hS2 := hS1.below b3
      have O3 := Lib.hid o3
      have K3 := Lib.hid (K21.out.below b3 K21.out.lt)
      have BF := Lib.hid (below3 BB1.out b3)
      have HSW := Lib.hid K21.out.lt
      refine ⟨hS2, ?_⟩
      clear o3 b3 hS1 K21 BB1 HX1
      refine take_at (i := 6) (d := 22) (v := .agg #[.int .i64 z, .slice A3 ws.length c3]) rfl rfl (by kernel_rfl) (by kernel_rfl) (by kernel_rfl) (fun _ _ _ h => h) (.inl ⟨by kernel_rfl, fun U hU => by go_simp⟩) hS2 ?_
      simp only [Act.put, List.setIfInBounds_toArray, List.set_cons_zero, List.set_cons_succ]
      have r0 := K3.out.c0
      have r1 := K3.out.c1
      have f0 := K3.out.frozen 0
      have f1 := K3.out.frozen 1
      have lr := K3.out.lt
      have hS9 := Lib.hid (hS2.far (k := w.heap.size + 1) (by omega) HBN.out (.int .i64 z) (.slice A3 ws.length c3))
      have HB := Lib.hid (below_set2 (g := w.heap.size + 1) BF.out (Nat.le_succ _) (.int .i64 z) (.slice A3 ws.length c3))
      have HN := Lib.hid ((OwnI.past2 (g := w.heap.size + 1) O3.out HSW.out (.int .i64 z) (.slice A3 ws.length c3)).base (Nat.le_of_lt (Nat.lt_trans (Nat.lt_succ_self _) HSW.out)))
      have KF := Lib.hid ((K3.out.set_ 0 (.int .i64 z)).set_ 1 (.slice A3 ws.length c3))
      clear hS2
      refine wpAnyH_all (rs := [7]) (by kernel_rfl) (by simp) ?_
      intro i hi
      simp only [List.mem_cons, List.not_mem_nil, or_false] at hi
      subst hi
      unfold wpOp
      go_simp
      left
      refine ⟨hS9.out, ?_⟩
      clear r0 r1 f0 f1 lr
      refine take_at (i := 8) (d := 5) (v := .int .i64 0) rfl rfl (by kernel_rfl) (by kernel_rfl) (by kernel_rfl) (fun _ _ _ h => h) (.inl ⟨by kernel_rfl, fun U hU => by go_simp⟩) hS9.out ?_
      simp only [Act.put, List.setIfInBounds_toArray, List.set_cons_zero, List.set_cons_succ]
      refine wpAnyH_done (by kernel_rfl) ?_ _
      go_wp2
      have r0 := KF.out.c0
      have r1 := KF.out.c1
      exact bodyPost_ret (v := .tuple #[.agg #[.int .i64 z, .slice A3 ws.length c3], .int .i64 0]) (by simp [results, Try.results16, go_sem, r0, r1]) rfl ⟨A3, c3, rfl, HN.out, HB.out⟩
    · rw [show dropR z l id = (5, 0, []) by unfold dropR; rw [if_neg (fun q => q hok), if_pos hm]]
      have HM := Lib.hid (hasB_no hm)
      clear hok hm
      go_enter Try.func16, Try.ntmps16
      go_wp2_with fail
      refine (rcheck_any z _ n c l _ HX.out).mono ?_
      rw [if_pos HOK.out]
      rintro e w1 ⟨rfl, b⟩
      replace HX := Lib.hid (HX.out.below b)
      replace K1 := Lib.hid (K1.out.below b K1.out.lt)
      replace K2 := Lib.hid (K2.out.below b K2.out.lt)
      replace BB := Lib.hid (below3 BB.out b)
      clear b a0 a1 lg
      have a0 := K1.out.c0
      have a1 := K1.out.c1
      have lg := K1.out.lt
      go_wp2_with fail
      refine (rhas_any A n c l id _ HX.out.x).mono ?_
      rw [HM.out]
      rintro e w2 ⟨rfl, b⟩
      replace HX := Lib.hid (HX.out.below b)
      replace K1 := Lib.hid (K1.out.below b K1.out.lt)
      replace K2 := Lib.hid (K2.out.below b K2.out.lt)
      replace BB := Lib.hid (below3 BB.out b)
      clear b a0 a1 lg
      have a0 := K1.out.c0
      have a1 := K1.out.c1
      have lg := K1.out.lt
      have r0 := K2.out.c0
      have r1 := K2.out.c1
      have f0 := K2.out.frozen 0
      have f1 := K2.out.frozen 1
      have lr := K2.out.lt
      have HB := Lib.hid (below_set2 (g := w.heap.size + 1) BB.out (Nat.le_succ _) (.int .i64 0) (.slice none 0 0))
      go_wp2
      exact bodyPost_ret (v := .tuple #[.agg #[.int .i64 0, .slice none 0 0], .int .i64 5]) (by simp [results, Try.results16, go_sem, *]) rfl ⟨none, 0, rfl, OwnI.nil_ _ _ _, HB.out⟩
  · rw [show dropR z l id = (1, 0, []) by unfold dropR; rw [if_pos hok]]
    have HNO := Lib.hid hok
    clear hok
    go_enter Try.func16, Try.ntmps16
    go_wp2_with fail
    refine (rcheck_any z _ n c l _ HX.out).mono ?_
    rw [if_neg HNO.out]
    rintro e w1 ⟨rfl, b⟩
    replace HX := Lib.hid (HX.out.below b)
    replace K1 := Lib.hid (K1.out.below b K1.out.lt)
    replace K2 := Lib.hid (K2.out.below b K2.out.lt)
    replace BB := Lib.hid (below3 BB.out b)
    clear b a0 a1 lg
    have a0 := K1.out.c0
    have a1 := K1.out.c1
    have lg := K1.out.lt
    have r0 := K2.out.c0
    have r1 := K2.out.c1
    have f0 := K2.out.frozen 0
    have f1 := K2.out.frozen 1
    have lr := K2.out.lt
    have HB := Lib.hid (below_set2 (g := w.heap.size + 1) BB.out (Nat.le_succ _) (.int .i64 0) (.slice none 0 0))
    go_wp2
    exact bodyPost_ret (v := .tuple #[.agg #[.int .i64 0, .slice none 0 0], .int .i64 1]) (by simp [results, Try.results16, go_sem, *]) rfl ⟨none, 0, rfl, OwnI.nil_ _ _ _, HB.out⟩


end Go.Proofs.Ytokmogfnliccjaa

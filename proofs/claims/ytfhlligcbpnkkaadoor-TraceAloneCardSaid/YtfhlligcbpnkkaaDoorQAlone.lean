import Derived.Test.YtfhlligcbpnkkaaDoorMg16
import Derived.Test.YtfhlligcbpnkkaaDoorMg17
import Derived.Test.YtfhlligcbpnkkaaDoorMg28
import Derived.Test.YtfhlligcbpnkkaaDoorMg15
import Derived.Test.YtfhlligcbpnkkaaDoorCards
import Derived.Test.YtfhlligcbpnkkaaDoorTie
import Derived.SevenTiedAt

/-
  Layer 18: a row of events of the call's own, two of whose events change places; all of the first k may come, each by its own task's.
-/
namespace Go.Proofs.YtfhlligcbpnkkaaDoor
open Go.RowKit

/-- In block g lie these events. -/
def RowE (W : World) (g : Nat) (p : List I3) : Prop :=
  ∃ cur, Bk W g 41 cur ∧ ∀ j, j < p.length → cur[j * 3]? = some (.int .i64 (ith p j).1) ∧ cur[j * 3 + 1]? = some (.int .i64 (ith p j).2.1) ∧ cur[j * 3 + 2]? = some (.int .i64 (ith p j).2.2)
/-- An event is stored. -/
def setE (W : World) (g i : Nat) (x y z : Value) : World := ((W.setCell ⟨g, i, none⟩ x).setCell ⟨g, i + 1, none⟩ y).setCell ⟨g, i + 2, none⟩ z
section
variable {W W' : World} {g k : Nat} {p : List I3}
theorem RowE.below (h : RowE W g p) (hb : Below W.heap.size W W') : RowE W' g p := by
  obtain ⟨cur, h1, h2⟩ := h
  exact ⟨cur, h1.below hb h1.lt, h2⟩
theorem RowE.lt (h : RowE W g p) : g < W.heap.size := by obtain ⟨cur, h1, -⟩ := h; exact h1.lt
theorem RowE.cells (h : RowE W g p) (hk : k < p.length) : W.cell? ⟨g, k * 3, none⟩ = some (.int .i64 (ith p k).1) ∧ W.cell? ⟨g, k * 3 + 1, none⟩ = some (.int .i64 (ith p k).2.1) ∧ W.cell? ⟨g, k * 3 + 2, none⟩ = some (.int .i64 (ith p k).2.2) := by
  obtain ⟨cur, h1, h2⟩ := h
  obtain ⟨a, b, c⟩ := h2 k hk
  exact ⟨(h1.cell _).trans a, (h1.cell _).trans b, (h1.cell _).trans c⟩
theorem RowE.frozen (h : RowE W g p) (i : Nat) : W.frozen? ⟨g, i, none⟩ = false := by obtain ⟨cur, h1, -⟩ := h; exact h1.frozen i
theorem ith_set {l : List I3} {k j : Nat} {x : I3} (hj : j < l.length) : ith (l.set k x) j = if k = j then x else ith l j := by
  rw [ith_get (by rw [List.length_set]; exact hj), ith_get hj, List.getElem_set]
theorem RowE.set_ (h : RowE W g p) (hk : k < p.length) (x y z : Int) : RowE (setE W g (k * 3) (.int .i64 x) (.int .i64 y) (.int .i64 z)) g (p.set k (x, y, z)) := by
  obtain ⟨cur, h1, h2⟩ := h
  refine ⟨_, ((h1.set_ (k * 3) (.int .i64 x)).set_ (k * 3 + 1) (.int .i64 y)).set_ (k * 3 + 2) (.int .i64 z), fun j hj => ?_⟩
  rw [List.length_set] at hj
  obtain ⟨a, b, c⟩ := h2 j hj
  obtain ⟨a', b', c'⟩ := h2 k hk
  have ha := (Array.getElem?_eq_some_iff.1 a').1
  have hb := (Array.getElem?_eq_some_iff.1 b').1
  have hc := (Array.getElem?_eq_some_iff.1 c').1
  rw [ith_set hj]
  by_cases e : k = j
  · subst e
    rw [if_pos rfl]
    refine ⟨?_, ?_, ?_⟩
    · rw [Array.getElem?_setIfInBounds_ne (by omega), Array.getElem?_setIfInBounds_ne (by omega), Array.getElem?_setIfInBounds_self_of_lt ha]
    · rw [Array.getElem?_setIfInBounds_ne (by omega), Array.getElem?_setIfInBounds_self_of_lt (by rw [Array.size_setIfInBounds]; exact hb)]
    · rw [Array.getElem?_setIfInBounds_self_of_lt (by rw [Array.size_setIfInBounds, Array.size_setIfInBounds]; exact hc)]
  · rw [if_neg e]
    refine ⟨?_, ?_, ?_⟩
    · rw [Array.getElem?_setIfInBounds_ne (by omega), Array.getElem?_setIfInBounds_ne (by omega), Array.getElem?_setIfInBounds_ne (by omega)]; exact a
    · rw [Array.getElem?_setIfInBounds_ne (by omega), Array.getElem?_setIfInBounds_ne (by omega), Array.getElem?_setIfInBounds_ne (by omega)]; exact b
    · rw [Array.getElem?_setIfInBounds_ne (by omega), Array.getElem?_setIfInBounds_ne (by omega), Array.getElem?_setIfInBounds_ne (by omega)]; exact c
theorem RowE.prog (h : RowE W g p) {n d : Nat} (hn : p.length = n) (hd : n ≤ d ∧ d ≤ 9223372036854775807) (hf : ∀ x ∈ p, FitI x) : Prog W (some ⟨g, 0, none⟩) n d p :=
  ⟨hn, hd, hf, fun _ => ⟨g, 0, rfl, h.lt, fun j hj => by
    obtain ⟨a, b, c⟩ := h.cells (k := j) (by omega)
    rw [Nat.zero_add]
    exact ⟨a, b, c⟩⟩⟩
theorem below_setE {B : Nat} {w : World} (h : Below B w W) (hg : B ≤ g) (i : Nat) (x y z : Value) : Below B w (setE W g i x y z) :=
  ((h.setCell (p := ⟨g, i, none⟩) hg x).setCell (p := ⟨g, i + 1, none⟩) hg y).setCell (p := ⟨g, i + 2, none⟩) hg z
theorem OwnP.rowE {base : Nat} {A : Option Addr} {c : Nat} (h : OwnP 41 W base A c p) (hp : 0 < p.length) : ∃ g, A = some ⟨g, 0, none⟩ ∧ base ≤ g ∧ RowE W g p := by
  obtain ⟨hl, hf, h1, h2⟩ := h
  rcases h2 with ⟨-, h2⟩ | ⟨g, cap, cur, e, hb, hh, hc, hm, hs, ht⟩
  · omega
  · injection e with e
    refine ⟨g, e, hb, cur, hh, fun j hj => ?_⟩
    obtain ⟨d0, d1, d2⟩ := cellsP_at p hj
    have hget : ∀ i u, (cellsP p)[i]? = some u → cur[i]? = some u := fun i u hu => by
      rw [← ht, List.getElem?_take] at hu
      split at hu
      · rw [← hu, Array.getElem?_toList]
      · cases hu
    exact ⟨hget _ _ d0, hget _ _ d1, hget _ _ d2⟩
end

/-- All of the first k events may come, each by its own task's. -/
noncomputable def allU (P : List (List I3)) (l : List I3) (k : Nat) : Bool := (l.take k).all fun x => (oneT P (ofR l x.2.1)).isSome
theorem allU_next {P : List (List I3)} {l : List I3} {k : Nat} (h : k < l.length) : allU P l (k + 1) = (allU P l k && (oneT P (ofR l (ith l k).2.1)).isSome) := by
  unfold allU
  rw [ith_takeT h, List.all_append]
  simp
theorem allU_end {P : List (List I3)} {l : List I3} : allU P l l.length = decide (badT P l = l.length) := by
  unfold allU
  rw [List.take_length]
  by_cases h : badT P l = l.length
  · rw [decide_eq_true h, List.all_eq_true]
    exact all_mem.1 h
  · rw [decide_eq_false h]
    cases e : l.all fun x => (oneT P (ofR l x.2.1)).isSome with
    | false => rfl
    | true => exact absurd (all_mem.2 (List.all_eq_true.1 e)) h
theorem own_dec {P : List (List I3)} {l : List I3} {id : Int} : (((badT P (ofR l id) : Nat) : Int) == ((ofR l id).length : Int)) = (oneT P (ofR l id)).isSome := by
  cases e : (oneT P (ofR l id)).isSome with
  | true => rw [own_alone.2 e]; simp
  | false =>
    have : badT P (ofR l id) ≠ (ofR l id).length := fun q => by rw [own_alone.1 q] at e; cases e
    simp; omega
theorem swap_set {l : List I3} {k : Nat} : swapT l k = (l.set k (ith l (k + 1))).set (k + 1) (ith l k) := rfl
theorem swap_fit {l : List I3} {k : Nat} (h : k + 1 < l.length) (hf : ∀ x ∈ l, FitI x) : ∀ x ∈ swapT l k, FitI x := fun x hx => by
  unfold swapT at hx
  have h1 : FitI (ith l k) := hf _ (mem_ith.2 ⟨k, by omega, rfl⟩)
  have h2 : FitI (ith l (k + 1)) := hf _ (mem_ith.2 ⟨k + 1, h, rfl⟩)
  rcases List.mem_or_eq_of_mem_set hx with hx | rfl
  · rcases List.mem_or_eq_of_mem_set hx with hx | rfl
    · exact hf x hx
    · exact h2
  · exact h1

end Go.Proofs.YtfhlligcbpnkkaaDoor

/-
  Layer 18: the law TraceAlone: it hangs on each task's own events alone.
-/
namespace Go.Proofs.YtfhlligcbpnkkaaDoor
open Go.RowKit

theorem swap_end {P : List (List I3)} {l : List I3} {n bd bs i : Nat} {ev : Bool} (hn : l.length = n) (hb : badT P l = bd) (hs : badT P (swapT l i) = bs) (hw : badT P (swapT l i) = l.length ↔ badT P l = l.length) (he : ((bd : Int) == (n : Int)) = ev) : ((bs : Int) == (n : Int)) = ev := by
  rw [hb, hs, hn] at hw
  rw [← he]
  by_cases q : bd = n
  · rw [hw.2 q, q]
  · have : bs ≠ n := fun z => q (hw.1 z)
    have e1 : ((bs : Int) == (n : Int)) = false := by simp; omega
    have e2 : ((bd : Int) == (n : Int)) = false := by simp; omega
    rw [e1, e2]
theorem alone_end {P : List (List I3)} {l : List I3} {n bd : Nat} {ev : Bool} (hn : l.length = n) (hb : badT P l = bd) (he : ((bd : Int) == (n : Int)) = ev) : allU P l n = ev := by
  rw [← hn, allU_end, hb, ← he, hn]
  by_cases q : bd = n
  · rw [decide_eq_true q, q]; simp
  · rw [decide_eq_false q]; symm; simp; omega
theorem alone_at {cut : Int} {n : Nat} (h2 : 2 ≤ n) (hn : n ≤ 100) : ((n : Int) - 1) ≠ 0 ∧ ∃ k : Nat, k + 1 < n ∧ (wrap64 (wrap64 (cut.tmod ((n : Int) - 1) + (n : Int)) - 1)).tmod ((n : Int) - 1) = (k : Int) := by
  have h1 : cut.tmod ((n : Int) - 1) < (n : Int) - 1 := Int.tmod_lt_of_pos cut (by omega)
  have h2 : -((n : Int) - 1) < cut.tmod ((n : Int) - 1) := by
    have h3 := Int.neg_tmod cut ((n : Int) - 1)
    have h4 := Int.tmod_lt_of_pos (-cut) (show (0 : Int) < (n : Int) - 1 by omega)
    omega
  refine ⟨by omega, ?_⟩
  have w2 : wrap64 (cut.tmod ((n : Int) - 1) + (n : Int)) = cut.tmod ((n : Int) - 1) + (n : Int) := by unfold wrap64; omega
  rw [w2]
  have w3 : wrap64 (cut.tmod ((n : Int) - 1) + (n : Int) - 1) = cut.tmod ((n : Int) - 1) + (n : Int) - 1 := by unfold wrap64; omega
  rw [w3]
  have h5 := Int.tmod_nonneg ((n : Int) - 1) (show 0 ≤ cut.tmod ((n : Int) - 1) + (n : Int) - 1 by omega)
  have h6 := Int.tmod_lt_of_pos (cut.tmod ((n : Int) - 1) + (n : Int) - 1) (show (0 : Int) < (n : Int) - 1 by omega)
  exact ⟨((cut.tmod ((n : Int) - 1) + (n : Int) - 1).tmod ((n : Int) - 1)).toNat, by omega, by omega⟩

set_option maxRecDepth 100000 in
set_option maxHeartbeats 8000000 in
theorem lalone_any (F A : Option Addr) (np cp n c : Nat) (P : List (List I3)) (l : List I3) (cut : Int) (w : World) (hF : Fol w) (hP : Prgs w F np P) (hl : Prog w A n c l) :
    Calls Tryd.prog 5 #[.slice F np cp, .slice A n c, .int .i64 cut] w (RetB (.bool true) w) := by
  have HF := Lib.hid hF
  have HPP := Lib.hid hP
  have HL := Lib.hid hl
  have LX := Lib.hid hl.1
  have hnc := hl.2.1
  clear hF hP hl
  by_cases hfw : fewB P = true
  · by_cases hn : n ≤ 100
    · have HFW := Lib.hid hfw
      have HN := Lib.hid hn
      have tn : decide (100 < (n : Int)) = false := decide_eq_false (by omega)
      have tnn : decide (100 < n) = false := decide_eq_false (by omega)
      clear hfw hn
      by_cases he : errL P = 0
      · obtain ⟨bd, hbd⟩ : ∃ b, badT P l = b := ⟨_, rfl⟩
        have HBD := Lib.hid hbd
        have hnn := HN.out
        have HC1 : Hid (chkT P l = ((bd : Int), 0)) := Lib.hid (by rw [chkT_ok ⟨he, by have := LX.out; omega⟩, hbd])
        have HE := Lib.hid he
        clear hbd he
        have BB := Lib.hid (Below.refl w.heap.size w)
        go_enter Tryd.func5, Tryd.ntmps5
        go_wp2_with fail
        refine (live_any _ (HF.out.le BB.out)).mono ?_
        try dsimp only
        rintro e U1 ⟨rfl, bU1⟩
        replace BB := Lib.hid (below3 BB.out bU1)
        clear bU1
        go_wp2_with fail
        refine (few_any F np cp P _ (HPP.out.below BB.out)).mono ?_
        rw [HFW.out]
        try dsimp only
        rintro e U2 ⟨rfl, hw⟩
        have hw2 := hw.symm
        subst hw2
        clear hw
        go_wp2_with fail
        refine (check_pr F A np cp n c P l _ (HF.out.le BB.out) (HPP.out.below BB.out) (HL.out.below BB.out)).mono ?_
        rw [HC1.out]
        try dsimp only
        rintro e U3 ⟨rfl, bU3⟩
        replace BB := Lib.hid (below3 BB.out bU3)
        clear bU3
        go_wp2_with fail
        go_loopw [10, 44] (fun u t wr => ∃ k : Nat, k ≤ n ∧ t = .int .i64 k ∧ u = .bool (allU P l k) ∧ Hid (Below w.heap.size w wr)) (fun _ t _ => n - (intOf t).toNat)
        case atStart => exact ⟨0, Nat.zero_le _, rfl, rfl, BB⟩
        case round =>
          clear BB
          rename World => wr
          obtain ⟨k, hk, rfl, rfl, BB⟩ := hrel
          by_cases hkn : k < n
          · obtain ⟨b, o, hA, hb, c0, c1, c2⟩ := (HL.out.below BB.out).at_ hkn
            subst hA
            have hkl : k < l.length := by rw [LX.out]; exact hkn
            have hnx := allU_next (P := P) hkl
            obtain ⟨⟨kd, xi, xa⟩, hz⟩ : ∃ e, ith l k = e := ⟨_, rfl⟩
            rw [show jO l k = kd by unfold jO; rw [hz]] at c0
            rw [show jA l k = xi by unfold jA; rw [hz]] at c1
            rw [show jB l k = xa by unfold jB; rw [hz]] at c2
            rw [hz] at hnx
            dsimp only at hnx
            obtain ⟨av, hav⟩ : ∃ a, allU P l k = a := ⟨_, rfl⟩
            rw [hav] at hnx ⊢
            have hod := own_dec (P := P) (l := l) (id := xi)
            obtain ⟨m, hm⟩ : ∃ m, ofR l xi = m := ⟨_, rfl⟩
            have hml : m.length ≤ n := by rw [← hm, ← LX.out]; exact ofR_len l xi
            rw [hm] at hod hnx
            obtain ⟨sv, hsv⟩ : ∃ s, (oneT P m).isSome = s := ⟨_, rfl⟩
            rw [hsv] at hod hnx
            obtain ⟨bm, hbm⟩ : ∃ b, badT P m = b := ⟨_, rfl⟩
            rw [hbm] at hod
            have HCM : Hid (chkT P m = ((bm : Int), 0)) := Lib.hid (by rw [chkT_ok ⟨HE.out, by omega⟩, hbm])
            have HM := Lib.hid hm
            have HNX := Lib.hid hnx
            obtain ⟨ml, hmle⟩ : ∃ q, m.length = q := ⟨_, rfl⟩
            rw [hmle] at hod hml
            have HML := Lib.hid hmle
            clear hz hm hnx hav hsv hbm hmle hkl
            have kt := Bk.new wr 41 #[.int .i64 kd, .int .i64 xi, .int .i64 xa]
            have ba := (Below.refl wr.heap.size wr).alloc (Nat.le_refl _) (.cells #[.int .i64 kd, .int .i64 xi, .int .i64 xa] 41)
            replace BB := Lib.hid (below3 BB.out ba)
            obtain ⟨W8, hW⟩ : ∃ W, wr.alloc (.cells #[.int .i64 kd, .int .i64 xi, .int .i64 xa] 41) = W := ⟨_, rfl⟩
            obtain ⟨gE, hg⟩ : ∃ g, wr.heap.size = g := ⟨_, rfl⟩
            rw [hW] at kt BB
            rw [hg] at kt
            have HW := Lib.hid hW
            have HG := Lib.hid hg
            have KE := Lib.hid kt
            clear hW hg kt ba
            go_upto_region 11 with fail
            rw [HW.out]
            try rw [HG.out]
            clear HW HG
            clear c0 c1 c2 hb
            obtain ⟨q0, q1, q2⟩ := KE.out.c3t
            have lE := KE.out.lt
            go_wp2_with fail
            refine (of_pr (some ⟨b, o, none⟩) n c l xi _ (by omega) (HL.out.below BB.out)).mono ?_
            rw [HM.out]
            unfold NewEv
            rintro e U7 ⟨A3, c3, rfl, ow, b7⟩
            rw [HML.out]
            have T3 := Lib.hid ow.prog
            rw [HML.out] at T3
            replace BB := Lib.hid (below3 BB.out b7)
            clear ow b7 q0 q1 q2 lE
            go_wp2_with fail
            refine (check_pr F A3 np cp ml c3 P m _ (HF.out.le BB.out) (HPP.out.below BB.out) T3.out).mono ?_
            rw [HCM.out]
            rintro e U8 ⟨rfl, b8⟩
            replace BB := Lib.hid (below3 BB.out b8)
            clear b8
            cases av
            · go_wp2_with fail
              go_roundw
              case rel => exact ⟨k + 1, by omega, by go_num, by rw [HNX.out]; rfl, BB⟩
              case measure => simp [intOf]; omega
            · go_wp2_with fail
              go_roundw
              case rel => exact ⟨k + 1, by omega, by go_num, by rw [HNX.out]; rfl, BB⟩
              case measure => simp [intOf]; omega
          · have hkk : k = n := by omega
            subst hkk
            obtain ⟨ev, hev⟩ : ∃ b, ((bd : Int) == (k : Int)) = b := ⟨_, rfl⟩
            have HAE : Hid (allU P l k = ev) := Lib.hid (alone_end LX.out HBD.out hev)
            rw [HAE.out]
            by_cases h2 : k < 2
            · have t2 : decide ((k : Int) < 2) = true := decide_eq_true (by omega)
              have t2n : decide (k < 2) = true := decide_eq_true (by omega)
              clear h2
              go_wp2_with fail
              go_ret
              exact ⟨rfl, BB.out⟩
            · have t2 : decide ((k : Int) < 2) = false := decide_eq_false (by omega)
              have t2n : decide (k < 2) = false := decide_eq_false (by omega)
              obtain ⟨hz, i, hik, hi⟩ := alone_at (cut := cut) (n := k) (by omega) hnn
              clear h2
              have hil : i + 1 < l.length := by rw [LX.out]; exact hik
              have HIL := Lib.hid hil
              obtain ⟨b, o, hA, hb, c0, c1, c2⟩ := (HL.out.below BB.out).at_ (j := i) (by omega)
              obtain ⟨b9, o9, hA9, -, d0, d1, d2⟩ := (HL.out.below BB.out).at_ (j := i + 1) hik
              subst hA
              injection hA9 with hA9
              injection hA9 with e6 e7 _
              subst e6 e7
              obtain ⟨⟨x0, x1, x2⟩, hx⟩ : ∃ e, ith l i = e := ⟨_, rfl⟩
              obtain ⟨⟨y0, y1, y2⟩, hy⟩ : ∃ e, ith l (i + 1) = e := ⟨_, rfl⟩
              rw [show jO l i = x0 by unfold jO; rw [hx]] at c0
              rw [show jA l i = x1 by unfold jA; rw [hx]] at c1
              rw [show jB l i = x2 by unfold jB; rw [hx]] at c2
              rw [show jO l (i + 1) = y0 by unfold jO; rw [hy]] at d0
              rw [show jA l (i + 1) = y1 by unfold jA; rw [hy]] at d1
              rw [show jB l (i + 1) = y2 by unfold jB; rw [hy]] at d2
              have HX := Lib.hid hx
              have HY := Lib.hid hy
              clear hx hy hil
              have ek : IntKind.i64.wrap ((i : Int) + 1) = ((i + 1 : Nat) : Int) := by rw [IntKind.wrap_i64]; omega
              have ekw : wrap64 ((i : Int) + 1) = ((i + 1 : Nat) : Int) := by unfold wrap64; omega
              have hi1 : i < k := by omega
              by_cases hid : x1 = y1
              · have t3 : (x1 == y1) = true := by simpa using hid
                clear hid
                go_upto_region 22 with fail
                clear hz hi
                go_region
                go_wp2_with fail
                go_ret
                exact ⟨rfl, (below3 BB.out (Below.refl _ _).drew)⟩
              · have t3 : (x1 == y1) = false := by simpa using hid
                have HSW := Lib.hid (all_swap (P := P) HIL.out (show (ith l i).2.1 ≠ (ith l (i + 1)).2.1 by rw [HX.out, HY.out]; exact hid))
                clear hid
                go_upto_region 22 with fail
                clear hz hi
                go_region
                have bd2 := (Below.refl wr.heap.size wr).drew
                have HBW := Lib.hid (below3 BB.out bd2)
                replace c0 := (bd2.cell (p := ⟨b, o + i * 3, none⟩) hb).trans c0
                replace c1 := (bd2.cell (p := ⟨b, o + i * 3 + 1, none⟩) hb).trans c1
                replace c2 := (bd2.cell (p := ⟨b, o + i * 3 + 2, none⟩) hb).trans c2
                replace d0 := (bd2.cell (p := ⟨b, o + (i + 1) * 3, none⟩) hb).trans d0
                replace d1 := (bd2.cell (p := ⟨b, o + (i + 1) * 3 + 1, none⟩) hb).trans d1
                replace d2 := (bd2.cell (p := ⟨b, o + (i + 1) * 3 + 2, none⟩) hb).trans d2
                replace hb := Nat.lt_of_lt_of_le hb bd2.size
                generalize wr.drew = V0 at HBW c0 c1 c2 d0 d1 d2 hb ⊢
                clear bd2 BB
                have BB := Lib.hid HBW.out
                clear HBW
                go_upto_region 25 with (at_builtin; refine wpList_append_prog _ rfl _ _ 23 rfl 41 _ rfl Tryd.underlying23 Tryd.evInfo V0.heap.size none 0 [] 0 rfl rfl (OwnP.nil_ _ _ _) (some ⟨b, o, none⟩) k c l rfl (HL.out.below BB.out) (by simp; omega) (Nat.le_refl _) ?_; intro D1 d9 V1 ho hg; rw [List.nil_append] at ho ⊢; rw [LX.out]; have HO := Lib.hid ho; have HG := Lib.hid hg; clear ho hg)
                obtain ⟨g, hD, hgb, hre⟩ := HO.out.rowE (by have := LX.out; omega)
                subst hD
                have hcap := HO.out.prog.2.1
                rw [LX.out] at hcap
                have HCAP := Lib.hid hcap
                have HRE := Lib.hid hre
                have bv1 := below_app0 HG.out
                have HV1 := Lib.hid bv1
                have HB := Lib.hid hb
                have HGB := Lib.hid hgb
                have HC0 := Lib.hid c0
                have HC1 := Lib.hid c1
                have HC2 := Lib.hid c2
                have HD0 := Lib.hid d0
                have HD1 := Lib.hid d1
                have HD2 := Lib.hid d2
                clear c0 c1 c2 d0 d1 d2 hre hgb hcap HG HO bv1
                have e0 := (HV1.out.cell (p := ⟨b, o + (i + 1) * 3, none⟩) HB.out).trans HD0.out
                have e1 := (HV1.out.cell (p := ⟨b, o + (i + 1) * 3 + 1, none⟩) HB.out).trans HD1.out
                have e2 := (HV1.out.cell (p := ⟨b, o + (i + 1) * 3 + 2, none⟩) HB.out).trans HD2.out
                have lb := Nat.lt_of_lt_of_le HB.out HV1.out.size
                have lg := HRE.out.lt
                obtain ⟨r0, r1, r2⟩ := HRE.out.cells (k := i) (by have := HIL.out; omega)
                rw [HX.out] at r0 r1 r2
                have f0 := HRE.out.frozen (i * 3)
                have f1 := HRE.out.frozen (i * 3 + 1)
                have f2 := HRE.out.frozen (i * 3 + 2)
                have z0 := HRE.out.set_ (k := i) (by have := HIL.out; omega) y0 y1 y2
                have zb := below_setE HV1.out HGB.out (i * 3) (.int .i64 y0) (.int .i64 y1) (.int .i64 y2)
                obtain ⟨X1, hX⟩ : ∃ X, setE V1 g (i * 3) (.int .i64 y0) (.int .i64 y1) (.int .i64 y2) = X := ⟨_, rfl⟩
                rw [hX] at z0 zb
                unfold setE at hX
                have HX1 := Lib.hid hX
                have HR1 := Lib.hid z0
                have HB1 := Lib.hid zb
                clear hX z0 zb
                go_upto_region 26 with fail
                rw [HX1.out]
                clear HX1 e0 e1 e2 r0 r1 r2 f0 f1 f2 lb lg
                have e0 := (HB1.out.cell (p := ⟨b, o + i * 3, none⟩) HB.out).trans HC0.out
                have e1 := (HB1.out.cell (p := ⟨b, o + i * 3 + 1, none⟩) HB.out).trans HC1.out
                have e2 := (HB1.out.cell (p := ⟨b, o + i * 3 + 2, none⟩) HB.out).trans HC2.out
                have lb := Nat.lt_of_lt_of_le HB.out HB1.out.size
                have lg := HR1.out.lt
                obtain ⟨r0, r1, r2⟩ := HR1.out.cells (k := i + 1) (by rw [List.length_set]; exact HIL.out)
                have f0 := HR1.out.frozen ((i + 1) * 3)
                have f1 := HR1.out.frozen ((i + 1) * 3 + 1)
                have f2 := HR1.out.frozen ((i + 1) * 3 + 2)
                have z0 := HR1.out.set_ (k := i + 1) (by rw [List.length_set]; exact HIL.out) x0 x1 x2
                have zs : (l.set i (y0, y1, y2)).set (i + 1) (x0, x1, x2) = swapT l i := by rw [swap_set, HX.out, HY.out]
                rw [zs] at z0
                have zb := below_setE HB1.out HGB.out ((i + 1) * 3) (.int .i64 x0) (.int .i64 x1) (.int .i64 x2)
                obtain ⟨X2, hX⟩ : ∃ X, setE X1 g ((i + 1) * 3) (.int .i64 x0) (.int .i64 x1) (.int .i64 x2) = X := ⟨_, rfl⟩
                rw [hX] at z0 zb
                unfold setE at hX
                have HX2 := Lib.hid hX
                have HPS := Lib.hid (z0.prog (n := k) (d := d9) (by rw [swapT_len, LX.out]) HCAP.out (swap_fit HIL.out (fun q hq => HL.out.2.2.1 q hq)))
                have HBF := Lib.hid (BB.out.trans (zb.mono BB.out.size))
                clear hX z0 zb zs
                obtain ⟨bs, hbs⟩ : ∃ b, badT P (swapT l i) = b := ⟨_, rfl⟩
                have HCS : Hid (chkT P (swapT l i) = ((bs : Int), 0)) := Lib.hid (by rw [chkT_ok ⟨HE.out, by rw [swapT_len]; have := LX.out; omega⟩, hbs])
                have hbe : ((bs : Int) == (k : Int)) = ev := swap_end LX.out HBD.out hbs HSW.out hev
                clear hbs
                go_upto_region 27 with fail
                rw [HX2.out]
                clear HX2 e0 e1 e2 r0 r1 r2 f0 f1 f2 lb lg
                go_wp2_with fail
                refine (check_pr F (some ⟨g, 0, none⟩) np cp k d9 P (swapT l i) _ (HF.out.le HBF.out) (HPP.out.below HBF.out) HPS.out).mono ?_
                rw [HCS.out]
                rintro e U9 ⟨rfl, b9⟩
                have HBZ := Lib.hid (below3 HBF.out b9)
                clear b9
                go_wp2_with fail
                go_ret
                exact ⟨rfl, HBZ.out⟩
      · have HC1 : Hid (chkT P l = (0, 1)) := Lib.hid (chkT_no fun q => he q.1)
        clear he
        have BB := Lib.hid (Below.refl w.heap.size w)
        go_enter Tryd.func5, Tryd.ntmps5
        go_wp2_with fail
        refine (live_any _ (HF.out.le BB.out)).mono ?_
        try dsimp only
        rintro e U1 ⟨rfl, bU1⟩
        replace BB := Lib.hid (below3 BB.out bU1)
        clear bU1
        go_wp2_with fail
        refine (few_any F np cp P _ (HPP.out.below BB.out)).mono ?_
        rw [HFW.out]
        try dsimp only
        rintro e U2 ⟨rfl, hw⟩
        have hw2 := hw.symm
        subst hw2
        clear hw
        go_wp2_with fail
        refine (check_pr F A np cp n c P l _ (HF.out.le BB.out) (HPP.out.below BB.out) (HL.out.below BB.out)).mono ?_
        rw [HC1.out]
        try dsimp only
        rintro e U3 ⟨rfl, bU3⟩
        replace BB := Lib.hid (below3 BB.out bU3)
        clear bU3
        go_wp2_with fail
        go_ret
        exact ⟨rfl, BB.out⟩
    · have HFW := Lib.hid hfw
      have tn : decide (100 < (n : Int)) = true := decide_eq_true (by omega)
      have tnn : decide (100 < n) = true := decide_eq_true (by omega)
      clear hfw hn
      have BB := Lib.hid (Below.refl w.heap.size w)
      go_enter Tryd.func5, Tryd.ntmps5
      go_wp2_with fail
      refine (live_any _ (HF.out.le BB.out)).mono ?_
      try dsimp only
      rintro e U1 ⟨rfl, bU1⟩
      replace BB := Lib.hid (below3 BB.out bU1)
      clear bU1
      go_wp2_with fail
      refine (few_any F np cp P _ (HPP.out.below BB.out)).mono ?_
      rw [HFW.out]
      try dsimp only
      rintro e U2 ⟨rfl, hw⟩
      have hw2 := hw.symm
      subst hw2
      clear hw
      go_wp2_with fail
      go_ret
      exact ⟨rfl, BB.out⟩
  · have HFW : Hid (fewB P = false) := Lib.hid (by simpa using hfw)
    clear hfw
    have BB := Lib.hid (Below.refl w.heap.size w)
    go_enter Tryd.func5, Tryd.ntmps5
    go_wp2_with fail
    refine (live_any _ (HF.out.le BB.out)).mono ?_
    try dsimp only
    rintro e U1 ⟨rfl, bU1⟩
    replace BB := Lib.hid (below3 BB.out bU1)
    clear bU1
    go_wp2_with fail
    refine (few_any F np cp P _ (HPP.out.below BB.out)).mono ?_
    rw [HFW.out]
    try dsimp only
    rintro e U2 ⟨rfl, hw⟩
    have hw2 := hw.symm
    subst hw2
    clear hw
    go_wp2_with fail
    go_ret
    exact ⟨rfl, BB.out⟩

end Go.Proofs.YtfhlligcbpnkkaaDoor

/-
  The tied card of the law TraceAlone of layer 18 holds, for every input, where the table of states reads as the program's own text lays it: it hangs on each task's own events alone. No condition beyond the row's own.
-/
namespace Go.Proofs.YtfhlligcbpnkkaaDoor
open Go.ChangeShapes Go.WideShapes Go.ChangeAt Go.RowKit

set_option maxRecDepth 100000 in
theorem lalone_gives {H : Type} (enc : TypeId × Value → H) : GivesL Fol enc 5 Tryd.f5.params.toList Rows.traceAloneSpec := by
  intro W base args ds p hval hA hsz hlt hL
  rw [Tryd.params5] at hA hval hsz
  obtain ⟨v0, vs0, d0, ds0, p0, q0, hargs, rfl, rfl, h0, r0⟩ := trodAll_cons hA
  obtain ⟨v1, vs1, d1, ds1, p1, q1, rfl, rfl, rfl, h1, r1⟩ := trodAll_cons r0
  obtain ⟨v2, vs2, d2, ds2, p2, q2, rfl, rfl, rfl, h2, r2⟩ := trodAll_cons r1
  obtain ⟨rfl, rfl, rfl⟩ := trodAll_nil r2
  obtain rfl : args = #[v0, v1, v2] := by cases args; simp_all
  refine ⟨rfl, ?_⟩
  obtain ⟨A0, n0, c0, l0, rfl, hx0⟩ := open_prgs (hval 0 22 v0 rfl rfl) h0 (fun x hx => hlt x (by simp [hx]))
  obtain ⟨A1, n1, c1, l1, rfl, hx1⟩ := open_evs (hval 1 23 v1 rfl rfl) h1 (fun x hx => hlt x (by simp [hx]))
  obtain ⟨a2, rfl, rfl, rfl, w2⟩ := open_int Tryd.underlying3 (hval 2 3 v2 rfl rfl) h2
  exact lalone_any A0 A1 n0 c0 n1 c1 l0 l1 a2 W hL hx0 hx1

set_option maxRecDepth 100000 in
theorem lalone_lifted (os : Os) (started : os.Started) (H : Type) (enc : TypeId × Value → H) :
    ReturnsInHanded {} Tryd.checked os 5 .any (fun w args => (Rows.traceAloneSpec.pre enc Tryd.prog Tryd.f5 Rows.traceAloneRow.domain false w args ∧ laidMetH Tryd.prog [("ravel/life.follows", Rows.laid_ravel_life_follows)] w) ∧ sizedMet enc Tryd.prog Tryd.f5 (OpenSpec.ofChange Rows.traceAloneSpec) false w args) (Rows.traceAloneSpec.post enc Tryd.prog Tryd.f5 false true false false) :=
  lawL_lifted os started 5 Tryd.f5 Rows.traceAloneSpec [("ravel/life.follows", Rows.laid_ravel_life_follows)] Fol fol_of_laid rfl rfl (by kernel_rfl) Tryd.func5 (by kernel_rfl) (by kernel_rfl)
    (ChangeSpec.witness_shaped (enc := enc) (C := Tryd.checked) (os := os) (X := fun w _ => laidMetH Tryd.prog [("ravel/life.follows", Rows.laid_ravel_life_follows)] w) false (World.laidAll Tryd.prog os [("ravel/life.follows", Rows.laid_ravel_life_follows)]) #[.slice none 0 0, .slice none 0 0, .int .i64 0] 8 (World.laidAll_os _ _ _)
      (World.shaped_of_ZipB (by kernel_rfl) (by kernel_rfl)) (by kernel_rfl) (by kernel_rfl) (by kernel_rfl) (by rw [MakeChecks.laidMetH_plain _ _ _ (by kernel_rfl)]; exact laidMet_laidAll _ (by kernel_rfl) (by kernel_rfl)))
    (lalone_gives enc)

set_option maxRecDepth 100000 in
theorem TraceAlone_row : Rows.TraceAloneSaid :=
  OpenClaim.holds_of_wide 5 Tryd.f5 rfl rfl rfl rfl rfl rfl rfl ⟨rfl, rfl, rfl, rfl, rfl⟩ rfl rfl rfl rfl rfl (by kernel_rfl) Tryd.func5 (by kernel_rfl)
    (of_decide_eq_true (by kernel_rfl)) (by unfold Func.isWrapper; first | (rw [if_pos (by decide +kernel)]; kernel_rfl) | (rw [if_neg (by decide +kernel)]; exact ⟨rfl, rfl⟩))
    (fun os started H enc _ => lalone_lifted os started H enc)

set_option maxRecDepth 100000 in
theorem TraceAlone_holds : Rows.TraceAloneCardSaid :=
  Claim7.holds_tied_plain_at .later [] [.data] true Rows.traceAloneCard.stood.harness false
    TraceAlone_row (fun _ h => by cases h) (by kernel_rfl) (fun _ h => by cases h) traceAlone_row_tie rfl ⟨rfl, rfl⟩ (by kernel_rfl) (by kernel_rfl)
    (fun f fn hf hfn => by
      obtain rfl : f = 5 := Option.some.inj ((show Tryd.prog.funcNamed "ravel/ravellaw18.TraceAlone" = some 5 by kernel_rfl).symm.trans hf) |>.symm
      obtain rfl : fn = Tryd.f5 := (Option.some.inj (Tryd.func5.symm.trans hfn)).symm
      exact ⟨by kernel_rfl, fun j t ht => by
        rw [Tryd.params5] at ht
        have hm : t ∈ [22, 23, 3] := by simpa using Array.mem_of_getElem? ht
        have hall : ([22, 23, 3].all fun u => !Tryd.prog.wantsStandIn u) = true := by kernel_rfl
        exact (show Tryd.prog.wantsStandIn t = false by simpa using List.all_eq_true.1 hall t hm)⟩)
    (by kernel_rfl)

#print axioms TraceAlone_holds
end Go.Proofs.YtfhlligcbpnkkaaDoor

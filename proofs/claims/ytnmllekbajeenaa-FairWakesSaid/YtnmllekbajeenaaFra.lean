/-
  Layer 15, the program's small functions: places held against each other by their tags, the busy ones, the least of them, what is there, a tag that is set.
-/
import Derived.Test.YtnmllekbajeenaaFrp
import Derived.Test.YtnmllekbajeenaaTnb
import Derived.Test.YtnmllekbajeenaaApp
import Derived.BigRegion
namespace Go.Proofs.Ytnmllekbajeenaa
open Go.RowKit

def cmpFr (a b : Int) : Int := if a < b then -1 else if b < a then 1 else 0
theorem isnan_fr (a : Int) (w : World) : Calls Try.prog 54 #[.int .i64 a] w (fun e w' => e = .returned (.bool false) ∧ w' = w) := by
  have t1 : (a != a) = false := by simp
  go_enter Try.func54, Try.ntmps54
  go_wp2
  go_ret
  exact ⟨rfl, rfl⟩
theorem compare_fr (a b : Int) (w : World) : Calls Try.prog 47 #[.int .i64 a, .int .i64 b] w (fun e w' => e = .returned (.int .i64 (cmpFr a b)) ∧ w' = w) := by
  have H := Lib.hid (fun x w => isnan_fr x w)
  by_cases h1 : a < b
  · have e : cmpFr a b = -1 := if_pos h1
    rw [e]
    have t1 : decide (a < b) = true := decide_eq_true h1
    clear e h1
    go_enter Try.func47, Try.ntmps47
    go_wp2_with (go_at_call 54; refine (H.out _ _).mono ?_; rintro e w' ⟨rfl, rfl⟩)
    go_ret
    exact ⟨rfl, rfl⟩
  · have t1 : decide (a < b) = false := decide_eq_false h1
    by_cases h2 : b < a
    · have e : cmpFr a b = 1 := by rw [cmpFr, if_neg h1, if_pos h2]
      rw [e]
      have t2 : decide (b < a) = true := decide_eq_true h2
      clear e h1 h2
      go_enter Try.func47, Try.ntmps47
      go_wp2_with (go_at_call 54; refine (H.out _ _).mono ?_; rintro e w' ⟨rfl, rfl⟩)
      go_ret
      exact ⟨rfl, rfl⟩
    · have e : cmpFr a b = 0 := by rw [cmpFr, if_neg h1, if_neg h2]
      rw [e]
      have t2 : decide (b < a) = false := decide_eq_false h2
      clear e h1 h2
      go_enter Try.func47, Try.ntmps47
      go_wp2_with (go_at_call 54; refine (H.out _ _).mono ?_; rintro e w' ⟨rfl, rfl⟩)
      go_ret
      exact ⟨rfl, rfl⟩

theorem infoInt : (Try.prog.info? 3).map (fun i => (i.zero, i.size, i.bytes)) = some (some (.int .i64 0), 1, 8) := by kernel_rfl
theorem cmpFr_lt {a b : Int} (h : a < b) : cmpFr a b = -1 := if_pos h
theorem cmpFr_ge {a b : Int} (h : ¬ a < b) : 0 ≤ cmpFr a b := by unfold cmpFr; rw [if_neg h]; split <;> omega
theorem ints1_fr {w : World} {g : Nat} {t : TypeId} {z : Int} (h : Bk w g t #[.int .i64 z]) (hz : Fit z) : Ints w (some ⟨g, 0, none⟩) 1 [z] :=
  ⟨rfl, by decide, by simpa using hz, fun _ => ⟨g, 0, rfl, h.lt, fun j hj => by
    obtain rfl : j = 0 := by omega
    exact h.cell 0⟩⟩
theorem ints2_fr {w : World} {g : Nat} {t : TypeId} {y z : Int} (h : Bk w g t #[.int .i64 y, .int .i64 z]) (hy : Fit y) (hz : Fit z) : Ints w (some ⟨g, 0, none⟩) 2 [y, z] :=
  ⟨rfl, by decide, by simp [hy, hz], fun _ => ⟨g, 0, rfl, h.lt, fun j hj => by
    have : j = 0 ∨ j = 1 := by omega
    rcases this with rfl | rfl
    · exact h.cell 0
    · exact h.cell 1⟩⟩
section
variable {w : World} {A : Option Addr} {n : Nat} {zs : List Int} {bs : List Bool}
theorem Ints.at_fr (h : Ints w A n zs) {k : Nat} (hk : k < n) : ∃ b o, A = some ⟨b, o, none⟩ ∧ b < w.heap.size ∧ w.cell? ⟨b, o + k, none⟩ = some (.int .i64 (nth zs k)) := by
  obtain ⟨b, o, e, hb, hc⟩ := h.2.2.2 (by omega)
  exact ⟨b, o, e, hb, hc k hk⟩
theorem Flags.at_fr (h : Flags w A n bs) {k : Nat} (hk : k < n) : ∃ b o, A = some ⟨b, o, none⟩ ∧ b < w.heap.size ∧ w.cell? ⟨b, o + k, none⟩ = some (.bool (bth bs k)) := by
  obtain ⟨b, o, e, hb, hc⟩ := h.2.2 (by omega)
  exact ⟨b, o, e, hb, hc k hk⟩
theorem Ints.fit_fr (h : Ints w A n zs) {k : Nat} (hk : k < n) : Fit (nth zs k) := by
  have hl : k < zs.length := by rw [h.1]; exact hk
  rw [nth_get hl]
  exact h.2.2.1 _ (List.getElem_mem hl)
end
theorem take_snoc_fr {js : List Int} {k : Nat} (h : k < js.length) : js.take (k + 1) = js.take k ++ [nth js k] := by
  rw [List.take_add_one, List.getElem?_eq_getElem h, nth_get h]; rfl
theorem cellsTn_tg : ∀ (l : List Tn) (i : Nat) (z : Int), (cellsTn l).set (i * 5 + 3) (.int .i64 z) = cellsTn (l.set i { tth l i with tg := z })
  | [], _, _ => by simp [cellsTn]
  | t :: l, 0, z => by simp [cellsTn, cellsOne5, tth]
  | t :: l, i + 1, z => by
    have ih := cellsTn_tg l i z
    have e : cellsTn (t :: l) = [Value.int .i64 t.wt, Value.int .i64 t.qu, Value.int .i64 t.li, Value.int .i64 t.tg, Value.int .i64 t.rn] ++ cellsTn l := by simp [cellsTn, cellsOne5]
    have e2 : cellsTn ((t :: l).set (i + 1) { tth (t :: l) (i + 1) with tg := z }) = [Value.int .i64 t.wt, Value.int .i64 t.qu, Value.int .i64 t.li, Value.int .i64 t.tg, Value.int .i64 t.rn] ++ cellsTn (l.set i { tth l i with tg := z }) := by rw [tth_succ]; simp [cellsTn, cellsOne5]
    rw [e, e2, ← ih, show (i + 1) * 5 + 3 = i * 5 + 3 + 5 by omega]
    simp
theorem OwnTn.setTg {E : TypeId} {w : World} {base g c : Nat} {l : List Tn} (h : RowTn E w base g c l) (i : Nat) {z : Int} (hx : FitTn { tth l i with tg := z }) : RowTn E (w.setCell ⟨g, i * 5 + 3, none⟩ (.int .i64 z)) base g c (l.set i { tth l i with tg := z }) := h.put1 hx 3 _ (cellsTn_tg l i z)

set_option maxHeartbeats 4000000 in
theorem byTag1_fr (A : Option Addr) (n c : Nat) (l : List Tn) (i k g : Nat) (w : World) (hx : Tns w A n c l) (hi : i < n) (hk : k < n) (h0 : Bk w g 22 #[.slice A n c]) :
    Calls Try.prog 46 #[.int .i64 (i : Int), .int .i64 (k : Int), .pointer (some ⟨g, 0, none⟩)] w (RetB (.int .i64 (cmpFr (tth l i).tg (tth l k).tg)) w) := by
  obtain ⟨b, o, rfl, hb, -, -, -, c3, -⟩ := hx.at_ hi
  obtain ⟨b2, o2, e2, -, -, -, -, d3, -⟩ := hx.at_ hk
  injection e2 with e2
  injection e2 with e3 e4
  subst e3 e4
  have hnc := hx.2.1
  clear hx
  generalize (tth l i).tg = x at c3 ⊢
  generalize (tth l k).tg = y at d3 ⊢
  have q0 : _ = some (Value.slice (some ⟨b, o, none⟩) n c) := h0.cell 0
  have l0 := h0.lt
  clear h0
  go_enter Try.func46, Try.ntmps46
  go_upto_region 1 with fail
  refine calm_region (S := fun U => Below w.heap.size w U) (by kernel_rfl) (Below.refl _ _).drew ?_
  refine calm_to (i := 0) (t := 6) (v := .slice (some ⟨b, o, none⟩) n c) rfl rfl (by kernel_rfl) (by kernel_rfl) (by kernel_rfl) (fun _ _ _ h => h) (calm_of (by kernel_rfl) (fun U hU => by have q1 := (hU.cell (p := ⟨g, 0, none⟩) l0).trans q0; have ql := Nat.lt_of_lt_of_le l0 hU.size; go_simp)) ?_
  simp only [List.setIfInBounds_toArray, List.set_cons_zero, List.set_cons_succ]
  refine calm_to (i := 1) (t := 7) (v := .int .i64 (i : Int)) rfl rfl (by kernel_rfl) (by kernel_rfl) (by kernel_rfl) (fun _ _ _ h => h) (calm_move (by kernel_rfl) (.tmp 0) (.inl rfl) rfl) ?_
  simp only [List.setIfInBounds_toArray, List.set_cons_zero, List.set_cons_succ]
  refine calm_to (i := 2) (t := 8) (v := .pointer (some ⟨b, o + i * 5, none⟩)) rfl rfl (by kernel_rfl) (by kernel_rfl) (by kernel_rfl) (fun _ _ _ h => h) (calm_of (by kernel_rfl) (fun U hU => by go_simp)) ?_
  simp only [List.setIfInBounds_toArray, List.set_cons_zero, List.set_cons_succ]
  refine calm_to (i := 3) (t := 9) (v := .pointer (some ⟨b, o + i * 5 + 3, none⟩)) rfl rfl (by kernel_rfl) (by kernel_rfl) (by kernel_rfl) (fun _ _ _ h => h) (calm_of (by kernel_rfl) (fun U hU => by go_simp)) ?_
  simp only [List.setIfInBounds_toArray, List.set_cons_zero, List.set_cons_succ]
  refine calm_to (i := 4) (t := 10) (v := .int .i64 x) rfl rfl (by kernel_rfl) (by kernel_rfl) (by kernel_rfl) (fun _ _ _ h => h) (calm_of (by kernel_rfl) (fun U hU => by have q1 := (hU.cell (p := ⟨b, o + i * 5 + 3, none⟩) hb).trans c3; have ql := Nat.lt_of_lt_of_le hb hU.size; go_simp)) ?_
  simp only [List.setIfInBounds_toArray, List.set_cons_zero, List.set_cons_succ]
  refine calm_to (i := 5) (t := 11) (v := .slice (some ⟨b, o, none⟩) n c) rfl rfl (by kernel_rfl) (by kernel_rfl) (by kernel_rfl) (fun _ _ _ h => h) (calm_of (by kernel_rfl) (fun U hU => by have q1 := (hU.cell (p := ⟨g, 0, none⟩) l0).trans q0; have ql := Nat.lt_of_lt_of_le l0 hU.size; go_simp)) ?_
  simp only [List.setIfInBounds_toArray, List.set_cons_zero, List.set_cons_succ]
  refine calm_to (i := 6) (t := 12) (v := .int .i64 (k : Int)) rfl rfl (by kernel_rfl) (by kernel_rfl) (by kernel_rfl) (fun _ _ _ h => h) (calm_move (by kernel_rfl) (.tmp 1) (.inl rfl) rfl) ?_
  simp only [List.setIfInBounds_toArray, List.set_cons_zero, List.set_cons_succ]
  refine calm_to (i := 7) (t := 13) (v := .pointer (some ⟨b, o + k * 5, none⟩)) rfl rfl (by kernel_rfl) (by kernel_rfl) (by kernel_rfl) (fun _ _ _ h => h) (calm_of (by kernel_rfl) (fun U hU => by go_simp)) ?_
  simp only [List.setIfInBounds_toArray, List.set_cons_zero, List.set_cons_succ]
  refine calm_to (i := 8) (t := 14) (v := .pointer (some ⟨b, o + k * 5 + 3, none⟩)) rfl rfl (by kernel_rfl) (by kernel_rfl) (by kernel_rfl) (fun _ _ _ h => h) (calm_of (by kernel_rfl) (fun U hU => by go_simp)) ?_
  simp only [List.setIfInBounds_toArray, List.set_cons_zero, List.set_cons_succ]
  refine calm_to (i := 9) (t := 15) (v := .int .i64 y) rfl rfl (by kernel_rfl) (by kernel_rfl) (by kernel_rfl) (fun _ _ _ h => h) (calm_of (by kernel_rfl) (fun U hU => by have q1 := (hU.cell (p := ⟨b, o + k * 5 + 3, none⟩) hb).trans d3; have ql := Nat.lt_of_lt_of_le hb hU.size; go_simp)) ?_
  simp only [List.setIfInBounds_toArray, List.set_cons_zero, List.set_cons_succ]
  refine calm_to (i := 10) (t := 16) (v := .int .i64 (cmpFr x y)) rfl rfl (by kernel_rfl) (by kernel_rfl) (by kernel_rfl) (fun _ _ _ h => h) (calm_call2 (by kernel_rfl) 47 (.tmp 10) (.tmp 15) #[2, 2] rfl (enters_of Try.func47 (by kernel_rfl) rfl) (.int .i64 x) (.int .i64 y) rfl rfl (fun U hU => (compare_fr x y U).mono fun _ _ q => ⟨q.1, q.2 ▸ hU⟩)) ?_
  simp only [List.setIfInBounds_toArray, List.set_cons_zero, List.set_cons_succ]
  refine calm_to (i := 11) (t := 5) (v := .int .i64 (cmpFr x y)) rfl rfl (by kernel_rfl) (by kernel_rfl) (by kernel_rfl) (fun _ _ _ h => h) (calm_move (by kernel_rfl) (.tmp 16) (.inr rfl) rfl) ?_
  simp only [List.setIfInBounds_toArray, List.set_cons_zero, List.set_cons_succ]
  refine calm_done (by kernel_rfl) (fun U hU => ?_) _
  have BU := Lib.hid (show Below w.heap.size w U from hU)
  clear hU
  go_wp2
  go_ret
  exact ⟨rfl, BU.out⟩

/-- The closure that is handed out, and what it captured. -/
def TagFr (A : Option Addr) (n c : Nat) (w : World) (e : Ending) (w' : World) : Prop := ∃ g, e = .returned (.func (.func 46) #[] #[.pointer (some ⟨g, 0, none⟩)]) ∧ Bk w' g 22 #[.slice A n c] ∧ Below w.heap.size w w'

set_option maxHeartbeats 1000000 in
theorem byTag_fr (A : Option Addr) (n c : Nat) (w : World) :
    Calls Try.prog 35 #[.slice A n c] w (TagFr A n c w) := by
  obtain ⟨k0, b0⟩ := lay1 w #[.slice A n c] 22
  have K0 := Lib.hid k0
  have B0 := Lib.hid b0
  clear k0 b0
  go_enter Try.func35, Try.ntmps35
  go_wp2
  go_ret
  exact ⟨w.heap.size, rfl, K0.out, B0.out⟩

set_option maxHeartbeats 4000000 in
theorem those_fr (A : Option Addr) (n c : Nat) (bs : List Bool) (w : World) (hx : Flags w A n bs) (hn : n ≤ 1000) :
    Calls Try.prog 33 #[.slice A n c] w (NewI 3 (whoK bs n) w) := by
  have HX := Lib.hid hx
  have hnm := hx.2.1
  clear hx
  go_enter Try.func33, Try.ntmps33
  go_wp2
  go_loopw [3, 8] (fun t3 t wr => ∃ (k m : Nat) (Ao : Option Addr) (co : Nat), k ≤ n ∧ t = .int .i64 k ∧ t3 = .slice Ao m co ∧ Hid (m = (whoK bs k).length) ∧ Hid (OwnI 3 wr w.heap.size Ao co (whoK bs k)) ∧ Hid (Below w.heap.size w wr)) (fun _ t _ => n - (intOf t).toNat)
  case atStart => exact ⟨0, 0, none, 0, Nat.zero_le _, rfl, rfl, Lib.hid rfl, Lib.hid (OwnI.nil_ _ _ _), Lib.hid (Below.refl _ _)⟩
  case round =>
    rename World => wr
    obtain ⟨k, m, Ao, co, hk, rfl, rfl, HM, OW, BB⟩ := hrel
    by_cases hkn : k < n
    · obtain ⟨bL, oL, rfl, hbL, c0⟩ := (HX.out.below BB.out).at_fr hkn
      cases hbk : bth bs k with
      | false =>
        rw [hbk] at c0
        have HM1 := Lib.hid (HM.out.trans (congrArg List.length (whoK_no hbk).symm))
        have O1 : Hid (OwnI 3 wr w.heap.size Ao co (whoK bs (k + 1))) := Lib.hid (by rw [whoK_no hbk]; exact OW.out)
        clear hbk HM OW
        go_wp2
        go_roundw
        case rel => exact ⟨k + 1, m, Ao, co, by omega, by go_num, rfl, HM1, O1, BB⟩
        case measure => simp [intOf]; omega
      | true =>
        rw [hbk] at c0
        have HW := Lib.hid (whoK_yes hbk)
        have hmk : m ≤ k := by rw [HM.out]; exact whoK_len bs k
        obtain ⟨kb, ba⟩ := lay1 wr #[.int .i64 (k : Int)] 3
        have T1 := Lib.hid (ints1_fr kb (by unfold Fit; omega))
        have O1 := Lib.hid (OW.out.below ba)
        have B1 := Lib.hid (below3 BB.out ba)
        have HS1 := Lib.hid B1.out.size
        obtain ⟨p, hp⟩ : ∃ p, whoK bs k = p := ⟨_, rfl⟩
        rw [hp] at O1 HM HW
        clear hp hbk OW BB kb ba
        go_wp2_with (at_builtin; refine wpList_append_ints _ rfl _ _ 41 rfl 3 Try.underlying41 infoInt w.heap.size Ao co p m HM.out rfl O1.out (some ⟨wr.heap.size, 0, none⟩) 1 1 [(k : Int)] rfl T1.out (by have := HM.out; omega) HS1.out ?_; intro A2 c2 w4 ho hgr; have O5 := Lib.hid ho; have B5 := Lib.hid (below_app B1.out O1.out hgr HS1.out); clear ho hgr T1 O1 B1)
        have HN1 : Hid ((p ++ [(k : Int)]).length = m + 1) := Lib.hid (by have := HM.out; simp; omega)
        go_roundw
        case rel => exact ⟨k + 1, m + 1, A2, c2, by omega, by go_num, by first | rfl | rw [HN1.out] | (simp; exact HM.out.symm), Lib.hid (by rw [HW.out, HN1.out]), Lib.hid (by rw [HW.out]; exact O5.out), B5⟩
        case measure => simp [intOf]; omega
    · obtain rfl : n = k := by omega
      go_wp2
      go_ret
      exact ⟨Ao, co, (by rw [HM.out]; rfl), OW.out, BB.out⟩

set_option maxHeartbeats 8000000 in
theorem minFunc_fr (A At : Option Addr) (m c n ct g : Nat) (js : List Int) (l : List Tn) (w : World) (hj : Ints w A m js) (hx : Tns w At n ct l) (h0 : Bk w g 22 #[.slice At n ct]) (hm : 0 < m) (hr : ∀ q, q < m → ∃ k : Nat, k < n ∧ nth js q = k) :
    Calls Try.prog 34 #[.slice A m c, .func (.func 46) #[] #[.pointer (some ⟨g, 0, none⟩)]] w (RetB (.int .i64 (minOf l js)) w) := by
  have HX := Lib.hid hx
  have HJ := Lib.hid hj
  have H0 := Lib.hid h0
  have HR := Lib.hid hr
  have LJ := Lib.hid hj.1
  have hjm := hj.2.1
  clear hx hj h0 hr
  have t0 : decide ((m : Int) < 1) = false := decide_eq_false (by omega)
  obtain ⟨j0, hj0, e0⟩ := HR.out 0 hm
  obtain ⟨bJ, oJ, rfl, hbJ, c0⟩ := HJ.out.at_fr hm
  rw [e0] at c0
  rw [Nat.add_zero] at c0
  have HE0 := Lib.hid e0
  have HJ0 := Lib.hid hj0
  clear e0 hj0
  go_enter Try.func34, Try.ntmps34
  go_wp2
  go_loopw [5, 6] (fun t5 t wr => ∃ (k q : Nat), k ≤ m ∧ t = .int .i64 k ∧ t5 = .int .i64 q ∧ Hid (1 ≤ k ∧ q < n ∧ minOf l (js.take k) = q) ∧ Hid (Below w.heap.size w wr)) (fun _ t _ => m - (intOf t).toNat)
  case atStart => exact ⟨1, j0, hm, rfl, rfl, Lib.hid ⟨Nat.le_refl _, HJ0.out, by rw [take_snoc_fr (js := js) (k := 0) (by rw [LJ.out]; exact hm), HE0.out]; rfl⟩, Lib.hid (Below.refl _ _)⟩
  case round =>
    clear c0 HE0 HJ0
    rename World => wr
    obtain ⟨k, q, hk, rfl, rfl, HQ, BB⟩ := hrel
    by_cases hkn : k < m
    · obtain ⟨j, hj, ej⟩ := HR.out k hkn
      obtain ⟨b2, o2, e2, hb2, c1⟩ := (HJ.out.below BB.out).at_fr hkn
      injection e2 with e2
      injection e2 with e3 e4
      subst e3 e4
      rw [ej] at c1
      have HJJ := Lib.hid hj
      have HST := Lib.hid (take_snoc_fr (js := js) (k := k) (by rw [LJ.out]; exact hkn))
      rw [ej] at HST
      clear ej hj
      by_cases hc : (tth l j).tg < (tth l q).tg
      · have HC := Lib.hid (cmpFr_lt hc)
        have HCC := Lib.hid hc
        clear hc
        go_wp2_with fail
        refine (byTag1_fr At n ct l j q g _ (HX.out.below BB.out) HJJ.out HQ.out.2.1 (H0.out.below BB.out H0.out.lt)).mono ?_
        rw [HC.out]
        rintro e w1 ⟨rfl, b1⟩
        have B1 := Lib.hid (below3 BB.out b1)
        have c2 := (b1.cell (p := ⟨bJ, oJ + k, none⟩) hb2).trans c1
        clear b1
        go_wp2
        go_roundw
        case rel => exact ⟨k + 1, j, by omega, by go_num, rfl, Lib.hid ⟨by omega, HJJ.out, by rw [HST.out, minOf_snoc, HQ.out.2.2, if_pos (.inr HCC.out)]⟩, B1⟩
        case measure => simp [intOf]; omega
      · have hz := cmpFr_ge hc
        have HCC := Lib.hid hc
        obtain ⟨z, hzz⟩ : ∃ z, cmpFr (tth l j).tg (tth l q).tg = z := ⟨_, rfl⟩
        rw [hzz] at hz
        have HC := Lib.hid hzz
        have t1 : decide (z < 0) = false := decide_eq_false (by omega)
        clear hc hzz
        go_wp2_with fail
        refine (byTag1_fr At n ct l j q g _ (HX.out.below BB.out) HJJ.out HQ.out.2.1 (H0.out.below BB.out H0.out.lt)).mono ?_
        rw [HC.out]
        rintro e w1 ⟨rfl, b1⟩
        have B1 := Lib.hid (below3 BB.out b1)
        clear b1 c1
        go_wp2
        go_roundw
        case rel => exact ⟨k + 1, q, by omega, by go_num, rfl, Lib.hid ⟨by omega, HQ.out.2.1, by rw [HST.out, minOf_snoc, HQ.out.2.2, if_neg (fun e => e.elim (fun e => by omega) (fun e => absurd e (by rw [tgs_nat, tgs_nat]; have := HCC.out; omega)))]⟩, B1⟩
        case measure => simp [intOf]; omega
    · obtain rfl : m = k := by omega
      have HF : Hid (minOf l js = q) := Lib.hid (by have := HQ.out.2.2; rwa [← LJ.out, List.take_length] at this)
      go_wp2
      go_ret
      exact RetB.of (ret_i64 HF.out.symm) BB.out

set_option maxHeartbeats 4000000 in
theorem there_fr (A B : Option Addr) (n c m d : Nat) (l : List Tn) (js : List Int) (w : World) (hx : Tns w A n c l) (hj : Ints w B m js) :
    Calls Try.prog 30 #[.slice A n c, .slice B m d] w (RetB (.int .i64 (thereE l js)) w) := by
  have HX := Lib.hid hx
  have HJ := Lib.hid hj
  have LX := Lib.hid hx.1
  have LJ := Lib.hid hj.1
  have hnc := hx.2.1
  have hjm := hj.2.1
  clear hx hj
  obtain ⟨r, hr⟩ : ∃ r, thereE l js = r := ⟨_, rfl⟩
  rw [hr]
  have HRR := Lib.hid hr
  clear hr
  by_cases hok : okLn l
  · have HC := Lib.hid (chkLn_yes hok)
    have HOK := Lib.hid hok
    clear hok
    go_enter Try.func30, Try.ntmps30
    go_wp2_with fail
    refine (pchk_any A n c l _ HX.out).mono ?_
    rw [HC.out]
    rintro e w1 ⟨rfl, b1⟩
    have B1 := Lib.hid b1
    clear b1
    go_wp2
    go_loopw [15] (fun t wr => ∃ k : Nat, k ≤ m ∧ t = .int .i64 k ∧ Hid (Below w.heap.size w wr ∧ ∀ q, q < k → 0 ≤ nth js q ∧ nth js q < n)) (fun t _ => m - (intOf t).toNat)
    case atStart => exact ⟨0, Nat.zero_le _, rfl, Lib.hid ⟨B1.out, fun i hi => by omega⟩⟩
    case round =>
      clear B1
      rename World => wr
      obtain ⟨k, hk, rfl, OK⟩ := hrel
      by_cases hkn : k < m
      · obtain ⟨bL, oL, rfl, hbL, c0⟩ := (HJ.out.below OK.out.1).at_fr hkn
        obtain ⟨z, hz⟩ : ∃ z, nth js k = z := ⟨_, rfl⟩
        rw [hz] at c0
        have HZ := Lib.hid hz
        clear hz
        by_cases g0 : z < 0
        · have HR : Hid (r = 5) := Lib.hid (by rw [← HRR.out]; exact thereE_5 HOK.out (q := k) (by rw [LJ.out]; exact hkn) (by rw [HZ.out, LX.out]; omega))
          replace g0 : decide (z < 0) = true := decide_eq_true g0
          go_wp2
          go_ret
          exact RetB.of (ret_i64 HR.out.symm) OK.out.1
        · by_cases g1 : (n : Int) ≤ z
          · have HR : Hid (r = 5) := Lib.hid (by rw [← HRR.out]; exact thereE_5 HOK.out (q := k) (by rw [LJ.out]; exact hkn) (by rw [HZ.out, LX.out]; omega))
            replace g0 : decide (z < 0) = false := decide_eq_false g0
            replace g1 : decide ((n : Int) ≤ z) = true := decide_eq_true g1
            go_wp2
            go_ret
            exact RetB.of (ret_i64 HR.out.symm) OK.out.1
          · have HN : Hid (∀ q, q < k + 1 → 0 ≤ nth js q ∧ nth js q < n) := Lib.hid (fun q hq => by
              rcases Nat.lt_or_ge q k with h | h
              · exact OK.out.2 q h
              · obtain rfl : q = k := by omega
                rw [HZ.out]; omega)
            replace g0 : decide (z < 0) = false := decide_eq_false g0
            replace g1 : decide ((n : Int) ≤ z) = false := decide_eq_false g1
            have HB := Lib.hid OK.out.1
            clear OK HZ
            go_wp2
            go_roundw
            case rel => exact ⟨k + 1, by omega, by go_num, Lib.hid ⟨HB.out, HN.out⟩⟩
            case measure => simp [intOf]; omega
      · obtain rfl : m = k := by omega
        have HR : Hid (r = 0) := Lib.hid (by rw [← HRR.out]; exact thereE_0 HOK.out (fun q hq => by have := OK.out.2 q (by rw [← LJ.out]; exact hq); rw [LX.out]; exact this))
        go_wp2
        go_ret
        exact RetB.of (ret_i64 HR.out.symm) OK.out.1
  · have HC := Lib.hid (chkLn_no hok)
    have HR : Hid (r = 1) := Lib.hid (by rw [← HRR.out]; exact thereE_1 hok)
    clear hok
    go_enter Try.func30, Try.ntmps30
    go_wp2_with fail
    refine (pchk_any A n c l _ HX.out).mono ?_
    rw [HC.out]
    rintro e w1 ⟨rfl, b1⟩
    have B1 := Lib.hid b1
    clear b1
    go_wp2
    go_ret
    exact RetB.of (ret_i64 HR.out.symm) B1.out

set_option maxHeartbeats 2000000 in
theorem fit_fr (A B : Option Addr) (n c m d : Nat) (l : List Tn) (bs : List Bool) (w : World) (hx : Tns w A n c l) (hb : Flags w B m bs) :
    Calls Try.prog 29 #[.slice A n c, .slice B m d] w (RetB (.int .i64 (fitE l bs)) w) := by
  have HX := Lib.hid hx
  have LX := Lib.hid hx.1
  have LF := Lib.hid hb.1
  have hnc := hx.2.1
  clear hx hb
  by_cases hok : okLn l
  · have HC := Lib.hid (chkLn_yes hok)
    by_cases hq : m = n
    · rw [show fitE l bs = 0 from fitE_0 ⟨hok, by rw [LX.out, LF.out]; exact hq⟩]
      have t1 : ((m : Int) != (n : Int)) = false := by simp [hq]
      clear hq
      clear hok
      go_enter Try.func29, Try.ntmps29
      go_wp2_with fail
      refine (pchk_any A n c l _ HX.out).mono ?_
      rw [HC.out]
      rintro e w1 ⟨rfl, b1⟩
      have B1 := Lib.hid b1
      clear b1
      go_wp2
      go_ret
      exact ⟨rfl, B1.out⟩
    · rw [show fitE l bs = 1 from fitE_1 (fun q => hq (by rw [← LX.out, ← LF.out]; exact q.2))]
      have t1 : ((m : Int) != (n : Int)) = true := by simp; omega
      clear hq
      clear hok
      go_enter Try.func29, Try.ntmps29
      go_wp2_with fail
      refine (pchk_any A n c l _ HX.out).mono ?_
      rw [HC.out]
      rintro e w1 ⟨rfl, b1⟩
      have B1 := Lib.hid b1
      clear b1
      go_wp2
      go_ret
      exact ⟨rfl, B1.out⟩
  · have HC := Lib.hid (chkLn_no hok)
    rw [show fitE l bs = 1 from fitE_1 (fun q => hok q.1)]
    clear hok
    go_enter Try.func29, Try.ntmps29
    go_wp2_with fail
    refine (pchk_any A n c l _ HX.out).mono ?_
    rw [HC.out]
    rintro e w1 ⟨rfl, b1⟩
    have B1 := Lib.hid b1
    clear b1
    go_wp2
    go_ret
    exact ⟨rfl, B1.out⟩

set_option maxHeartbeats 2000000 in
theorem tagged_fr (A : Option Addr) (n c : Nat) (l : List Tn) (k : Nat) (z : Int) (w : World) (hx : Tns w A n c l) (hk : k < n) (hn : n ≤ 1000) (hz : Fit z) :
    Calls Try.prog 31 #[.slice A n c, .int .i64 (k : Int), .int .i64 z] w (OneTn (l.set k { tth l k with tg := z }) w) := by
  have HX := Lib.hid hx
  have LX := Lib.hid hx.1
  have hnc := hx.2.1
  have HFT := Lib.hid (hx.fit hk)
  have HFZ := Lib.hid hz
  have hkl : k < l.length := by rw [hx.1]; exact hk
  have HKL := Lib.hid hkl
  obtain ⟨p, hp⟩ : ∃ p, l.set k { tth l k with tg := z } = p := ⟨_, rfl⟩
  rw [hp]
  have HP := Lib.hid hp
  clear hx hp hkl hz
  go_enter Try.func31, Try.ntmps31
  go_wp2_with fail
  refine (clone_tn A n c l _ HX.out hn).mono ?_
  rintro e U3 ⟨A3, c3, rfl, o3, b3⟩
  have O3 := Lib.hid o3
  have BB := Lib.hid b3
  have hcap := o3.tns.2.1
  clear o3 b3
  obtain ⟨g, rfl, hg, hbg⟩ := O3.out.some_ (by have := HKL.out; omega)
  rw [LX.out] at hcap ⊢
  obtain ⟨⟨d0, d1, d2, d3, d4⟩, f0, f1, f2, f3, f4⟩ := O3.out.at5 HKL.out
  have O2 := O3.out.setTg k (z := z) ⟨HFT.out.1, HFT.out.2.1, HFT.out.2.2.1, HFZ.out, HFT.out.2.2.2.2⟩
  rw [HP.out] at O2
  have O2 := Lib.hid O2
  have B2 := Lib.hid (BB.out.setCell (p := ⟨g, k * 5 + 3, none⟩) hbg (.int .i64 z))
  have HPL : Hid (p.length = n) := Lib.hid (by rw [← HP.out, List.length_set]; exact LX.out)
  clear d0 d1 d2 d4 f0 f1 f2 f4
  go_wp2
  go_ret
  exact ⟨some ⟨g, 0, none⟩, c3, by rw [HPL.out]; rfl, O2.out, B2.out⟩

end Go.Proofs.Ytnmllekbajeenaa

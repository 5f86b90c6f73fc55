/-
  Layer 9, the program: Open, Shut, Arm, Fire, Drop answer what the document does.
-/
import Derived.Test.YtndbaoiabmldgaaPb
namespace Go.Proofs.Ytndbaoiabmldgaa
open Go.RowKit

theorem phas_any (A : Option Addr) (n c : Nat) (l : List Ds) (i : Int) (w : World) (hx : Dss w A n c l) :
    Calls Try.prog 29 #[.slice A n c, .int .i64 i] w (RetB (.bool (decide (hasD l i))) w) := by
  have LX := Lib.hid hx.1
  have hnc := hx.2.1
  have HC := Lib.hid (pcheck_any A n c l w hx)
  clear hx
  by_cases hok : pollOk l
  · by_cases h0 : 0 ≤ i
    · by_cases h1 : i < (n : Int)
      · rw [decide_eq_true (show hasD l i from ⟨hok, h0, by rw [LX.out]; exact h1⟩)]
        have HC := Lib.hid (if_pos hok ▸ HC.out)
        clear hok
        have t0 : decide (0 ≤ i) = true := decide_eq_true h0
        have t1 : decide (i < (n : Int)) = true := decide_eq_true h1
        go_enter Try.func29, Try.ntmps29
        go_wp2_with fail
        refine HC.out.mono ?_
        rintro e w1 ⟨rfl, b1⟩
        have B1 := Lib.hid b1
        clear b1
        go_wp2_with fail
        go_ret
        exact ⟨rfl, B1.out⟩
      · rw [decide_eq_false (show ¬ hasD l i from fun q => h1 (by have := q.2.2; rw [LX.out] at this; exact this))]
        have HC := Lib.hid (if_pos hok ▸ HC.out)
        clear hok
        have t0 : decide (0 ≤ i) = true := decide_eq_true h0
        have t1 : decide (i < (n : Int)) = false := decide_eq_false h1
        go_enter Try.func29, Try.ntmps29
        go_wp2_with fail
        refine HC.out.mono ?_
        rintro e w1 ⟨rfl, b1⟩
        have B1 := Lib.hid b1
        clear b1
        go_wp2_with fail
        go_ret
        exact ⟨rfl, B1.out⟩
    · rw [decide_eq_false (show ¬ hasD l i from fun q => h0 q.2.1)]
      have HC := Lib.hid (if_pos hok ▸ HC.out)
      clear hok
      have t0 : decide (0 ≤ i) = false := decide_eq_false h0
      go_enter Try.func29, Try.ntmps29
      go_wp2_with fail
      refine HC.out.mono ?_
      rintro e w1 ⟨rfl, b1⟩
      have B1 := Lib.hid b1
      clear b1
      go_wp2_with fail
      go_ret
      exact ⟨rfl, B1.out⟩
  · rw [decide_eq_false (show ¬ hasD l i from fun q => hok q.1)]
    have HC := Lib.hid (if_neg hok ▸ HC.out)
    clear hok
    go_enter Try.func29, Try.ntmps29
    go_wp2_with fail
    refine HC.out.mono ?_
    rintro e w1 ⟨rfl, b1⟩
    have B1 := Lib.hid b1
    clear b1
    go_wp2_with fail
    go_ret
    exact ⟨rfl, B1.out⟩

theorem wfd_any (o r : Bool) (z id : Int) (gb : Nat) (w : World) (hc : w.cell? ⟨gb, 0, none⟩ = some (.int .i64 id)) (hlt : gb < w.heap.size) :
    Calls Try.prog 42 #[.agg #[.bool o, .bool r, .int .i64 z], .pointer (some ⟨gb, 0, none⟩)] w (RetB (.bool (decide (z = id))) w) := by
  have k0 := Bk.new w 34 #[.bool o, .bool r, .int .i64 z]
  have hb := (Below.refl w.heap.size w).alloc (Nat.le_refl _) (.cells #[.bool o, .bool r, .int .i64 z] 34)
  have q : _ = some (Value.int .i64 id) := (hb.cell (p := ⟨gb, 0, none⟩) hlt).trans hc
  have c2 : _ = some (Value.int .i64 z) := k0.cell 2
  have HB := Lib.hid hb
  have HE := Lib.hid (show (z == id) = decide (z = id) from rfl)
  clear k0 hb hc
  go_enter Try.func42, Try.ntmps42
  go_wp2_with fail
  go_ret
  exact ⟨by simp; exact HE.out, HB.out⟩

set_option maxHeartbeats 1000000 in
theorem idx_any (A : Option Addr) (n c : Nat) (l : List Ds) (id : Int) (gb : Nat) (w : World) (hx : Dss w A n c l) (hk : Bk w gb 2 #[.int .i64 id]) :
    Calls Try.prog 41 #[.slice A n c, .func (.func 42) #[] #[.pointer (some ⟨gb, 0, none⟩)]] w (AtD l id w) := by
  have HX := Lib.hid hx
  have LX := Lib.hid hx.1
  have HK := Lib.hid hk
  have hnc := hx.2.1
  clear hx hk
  go_enter Try.func41, Try.ntmps41
  go_wp2_with fail
  go_loopw [8] (fun t wr => ∃ k : Nat, k ≤ n ∧ t = .int .i64 k ∧ Hid (Below w.heap.size w wr ∧ ∀ j, j < k → who l j ≠ id)) (fun t _ => n - (intOf t).toNat)
  case atStart => exact ⟨0, Nat.zero_le _, rfl, Lib.hid ⟨Below.refl _ _, fun i hi => by omega⟩⟩
  case round =>
    rename World => wr
    obtain ⟨k, hk, rfl, OK⟩ := hrel
    by_cases hkn : k < n
    · obtain ⟨bL, oL, rfl, hbL, c0, c1, c2⟩ := (HX.out.below OK.out.1).at_ hkn
      have hkl : k < l.length := by rw [LX.out]; exact hkn
      obtain ⟨⟨o1, r1, z1⟩, hz⟩ : ∃ x, dth l k = x := ⟨_, rfl⟩
      rw [hz] at c0 c1 c2
      simp only at c0 c1 c2
      have HW := Lib.hid (who_def l k hz)
      have kb := HK.out.below OK.out.1 HK.out.lt
      have HC := Lib.hid (wfd_any o1 r1 z1 id gb wr (kb.cell 0) kb.lt)
      clear hz kb
      go_wp2_with fail
      refine HC.out.mono ?_
      by_cases he : z1 = id
      · rw [decide_eq_true he]
        rintro e w1 ⟨rfl, b1⟩
        have HE : Hid (who l k = id) := Lib.hid (by rw [HW.out]; exact he)
        have HH : Hid (AtD l id w (.returned (.int .i64 (k : Int))) w1) := Lib.hid (.inl ⟨k, rfl, hkl, ⟨k, hkl, HE.out⟩, firstW_at hkl HE.out OK.out.2, below3 OK.out.1 b1⟩)
        clear he b1
        go_wp2_with fail
        go_ret
        exact HH.out
      · rw [decide_eq_false he]
        rintro e w1 ⟨rfl, b1⟩
        have OK2 : Hid (Below w.heap.size w w1 ∧ ∀ j, j < k + 1 → who l j ≠ id) := Lib.hid ⟨below3 OK.out.1 b1, fun i hi => by
          by_cases e : i = k
          · subst e; rw [HW.out]; exact he
          · exact OK.out.2 i (by omega)⟩
        clear he OK b1
        go_wp2_with fail
        go_roundw
        case rel => exact ⟨k + 1, by omega, by go_num, OK2⟩
        case measure => simp [intOf]; omega
    · obtain rfl : n = k := by omega
      go_wp2_with fail
      go_ret
      exact .inr ⟨rfl, fun ⟨j, hj, e⟩ => OK.out.2 j (by have := LX.out; omega) e, OK.out.1⟩

/-- The place where somebody waits, or -1; an id below 0 waits nowhere. -/
def AtP (l : List Ds) (id : Int) (w : World) (e : Ending) (w' : World) : Prop :=
  (∃ j : Nat, e = .returned (.int .i64 (j : Int)) ∧ j < l.length ∧ (0 ≤ id ∧ waitsD l id) ∧ firstW l id = j ∧ Below w.heap.size w w') ∨ (e = .returned (.int .i64 (-1)) ∧ ¬ (0 ≤ id ∧ waitsD l id) ∧ Below w.heap.size w w')
theorem pwaits_any (A : Option Addr) (n c : Nat) (l : List Ds) (id : Int) (w : World) (hx : Dss w A n c l) :
    Calls Try.prog 35 #[.slice A n c, .int .i64 id] w (AtP l id w) := by
  have HX := Lib.hid hx
  clear hx
  have k0 := Bk.new w 2 #[.int .i64 id]
  have b0 := (Below.refl w.heap.size w).alloc (Nat.le_refl _) (.cells #[.int .i64 id] 2)
  obtain ⟨g, hg⟩ : ∃ g, w.heap.size = g := ⟨_, rfl⟩
  obtain ⟨V, hV⟩ : ∃ V, w.alloc (.cells #[.int .i64 id] 2) = V := ⟨_, rfl⟩
  have HX1 := Lib.hid (HX.out.below b0)
  rw [hV] at k0 b0 HX1
  rw [hg] at k0
  have HV := Lib.hid hV
  have HG := Lib.hid hg
  have KV := Lib.hid k0
  have BV := Lib.hid b0
  clear hV hg k0 b0
  go_enter Try.func35, Try.ntmps35
  go_upto_region 1 with fail
  rw [HV.out]
  try rw [HG.out]
  clear HV HG
  have q0 : _ = some (Value.int .i64 id) := KV.out.cell 0
  have lq := KV.out.lt
  by_cases h0 : id < 0
  · have t0 : decide (id < 0) = true := decide_eq_true h0
    have H0 := Lib.hid h0
    clear h0
    go_wp2_with fail
    go_ret
    exact .inr ⟨rfl, fun q => by have := H0.out; omega, BV.out⟩
  · have t0 : decide (id < 0) = false := decide_eq_false h0
    have H0 := Lib.hid h0
    clear h0
    go_wp2_with fail
    refine (idx_any A n c l id g _ HX1.out KV.out).mono ?_
    rintro e w1 (⟨j, rfl, hj, hw, hf, b1⟩ | ⟨rfl, hw, b1⟩)
    · have HF : Hid (AtP l id w (.returned (.int .i64 (j : Int))) w1) := Lib.hid (.inl ⟨j, rfl, hj, ⟨by have := H0.out; omega, hw⟩, hf, below3 BV.out b1⟩)
      clear hj hw hf b1
      go_wp2_with fail
      go_ret
      exact HF.out
    · have HF : Hid (AtP l id w (.returned (.int .i64 (-1))) w1) := Lib.hid (.inr ⟨rfl, fun q => hw q.2, below3 BV.out b1⟩)
      clear hw b1
      go_wp2_with fail
      go_ret
      exact HF.out

theorem below_grown1 {w w' : World} {t : TypeId} (h : (w.alloc (.cells #[] t)).grownBy w' (Value.slice (some ⟨w.heap.size, 0, none⟩) 0 0).ownBlock) : Below w.heap.size w w' :=
  ((Below.refl w.heap.size w).alloc (Nat.le_refl _) _).grown h (by simp) (by intro k hk; simp [Value.ownBlock] at hk; omega)
theorem clone_any (A : Option Addr) (n c : Nat) (l : List Ds) (w : World) (hx : Dss w A n c l) (hn : n ≤ 1000) :
    Calls Try.prog 40 #[.slice A n c] w (NewD l w) := by
  have q : ∀ (w : World) (a : Option Addr) (n c n' c' : Nat), (binOp .eql 22 (.slice a n c) (.slice none n' c')).run Try.prog w = .ok (.bool a.isNone) w := fun w a n c n' c' => Lib.run_eql_slice_nil w _ _ a n c n' c' Try.underlying22
  have HX := Lib.hid hx
  cases A with
  | none =>
    have h0 : n = 0 := by
      rcases Nat.eq_zero_or_pos n with h | h
      · exact h
      · obtain ⟨b, o, e, _⟩ := hx.2.2.2 h
        cases e
    have HG : Hid (l = []) := Lib.hid (List.eq_nil_of_length_eq_zero (by rw [hx.1]; exact h0))
    clear hx
    subst h0
    go_enter Try.func40, Try.ntmps40
    go_wp2
    go_ret
    have := HG.out
    subst this
    exact ⟨none, 0, rfl, OwnD.nil_ _ _ _, Below.refl _ _⟩
  | some a =>
    clear hx
    go_enter Try.func40, Try.ntmps40
    go_wp2_with (at_builtin; refine wpList_append_dss _ rfl _ _ 22 rfl 34 _ rfl Try.underlying22 infoD w.heap.size (some ⟨w.heap.size, 0, none⟩) 0 [] 0 rfl rfl (OwnD.made _ _) (some a) n c l rfl (HX.out.alloc _) (by simp; omega) (by simp) ?_; intro A' c' w' ho hg; rw [List.nil_append] at ho ⊢; have HO := Lib.hid ho; have HB := Lib.hid (below_grown1 hg); clear ho hg)
    go_ret
    exact ⟨A', c', rfl, HO.out, HB.out⟩

set_option maxHeartbeats 1000000 in
theorem pwith_any (A : Option Addr) (n c : Nat) (l : List Ds) (k : Nat) (o r : Bool) (z : Int) (w : World) (hx : Dss w A n c l) (hk : k < n) (hn : n ≤ 1000) (fz : Fit z) :
    Calls Try.prog 31 #[.slice A n c, .int .i64 (k : Int), .agg #[.bool o, .bool r, .int .i64 z]] w (NewD (l.set k (o, r, z)) w) := by
  have LX := Lib.hid hx.1
  have FZ := Lib.hid fz
  have hnc := hx.2.1
  have k0 := Bk.new w 34 #[.bool o, .bool r, .int .i64 z]
  have b0 := (Below.refl w.heap.size w).alloc (Nat.le_refl _) (.cells #[.bool o, .bool r, .int .i64 z] 34)
  obtain ⟨gt, hgt⟩ : ∃ g, w.heap.size = g := ⟨_, rfl⟩
  obtain ⟨W, hW⟩ : ∃ W, w.alloc (.cells #[.bool o, .bool r, .int .i64 z] 34) = W := ⟨_, rfl⟩
  have HX := Lib.hid (hx.below b0)
  rw [hW] at k0 b0 HX
  rw [hgt] at k0
  have HW := Lib.hid hW
  have HGT := Lib.hid hgt
  have K0 := Lib.hid k0
  have B0 := Lib.hid b0
  obtain ⟨p, hp⟩ : ∃ p, l.set k (o, r, z) = p := ⟨_, rfl⟩
  rw [hp]
  have HP := Lib.hid hp
  clear hx fz k0 b0 hW hgt hp
  go_enter Try.func31, Try.ntmps31
  go_upto_region 1 with fail
  rw [HW.out]
  try rw [HGT.out]
  clear HW
  go_wp2_with fail
  refine (clone_any A n c l _ HX.out (by omega)).mono ?_
  rintro e w1 ⟨A1, c1, rfl, o1, b1⟩
  have OC := Lib.hid o1
  have BC := Lib.hid (below3 B0.out b1)
  have KC := Lib.hid (K0.out.below b1 K0.out.lt)
  have hsz : w.heap.size ≤ W.heap.size := B0.out.size
  have hgw : gt < W.heap.size := K0.out.lt
  clear o1 b1
  obtain ⟨g, rfl, hg, hbg⟩ := OC.out.some_ (by rw [LX.out]; omega)
  obtain ⟨⟨c0, c1', c2⟩, f0, f1, f2⟩ := OC.out.at3 (show k < l.length by rw [LX.out]; exact hk)
  have O2 := Lib.hid (OC.out.put k (x := (o, r, z)) FZ.out)
  have B2 := Lib.hid (below_put3 (g := g) BC.out (by have := B0.out.size; omega) k (o, r, z))
  have hcap := OC.out.cap
  have hll := LX.out
  have q0 : _ = some (Value.bool o) := KC.out.cell 0
  have q1 : _ = some (Value.bool r) := KC.out.cell 1
  have q2 : _ = some (Value.int .i64 z) := KC.out.cell 2
  have lq := KC.out.lt
  have hne : gt ≠ g := by omega
  rw [LX.out] at hcap ⊢
  clear hll
  unfold put3 at O2 B2
  go_wp2_with fail
  go_ret
  have hpl : p.length = n := by rw [← HP.out, List.length_set]; exact LX.out
  refine ⟨some ⟨g, 0, none⟩, c1, by rw [hpl]; rfl, ?_, B2.out⟩
  rw [← HP.out]
  exact O2.out.base (by rw [HGT.out]; omega)

set_option maxHeartbeats 2000000 in
theorem popen_any (A : Option Addr) (n c : Nat) (l : List Ds) (i : Int) (w : World) (hx : Dss w A n c l) (hn : n ≤ 1000) :
    Calls Try.prog 10 #[.slice A n c, .int .i64 i] w (ListD (openR l i) w) := by
  have HX := Lib.hid hx
  have LX := Lib.hid hx.1
  have hnc := hx.2.1
  clear hx
  by_cases hh : hasD l i
  · obtain ⟨k, rfl, hkl⟩ := has_nat hh
    have hkn : k < n := by rw [← LX.out]; exact hkl
    have HH := Lib.hid hh
    clear hh
    obtain ⟨⟨o1, r1, z1⟩, hz⟩ : ∃ x, dth l k = x := ⟨_, rfl⟩
    have HZ := Lib.hid hz
    have HW := Lib.hid (who_def l k hz)
    have hok : okD (o1, r1, z1) := by rw [← hz]; exact (HH.out.1.2 k hkl).1
    have FZ : Hid (Fit z1) := Lib.hid (by have := HX.out.fit hkn; rw [hz] at this; exact this)
    clear hz
    cases o1 with
    | true =>
      rw [show openR l (k : Int) = (6, []) by unfold openR; rw [if_pos HH.out, Int.toNat_natCast, HZ.out]; rfl]
      have hE := neq_fd true r1 z1 false false (-1)
      rw [show decide (((true, r1, z1) : Ds) = (false, false, -1)) = false from decide_eq_false (fun q => by cases q)] at hE
      have hG := guard_fd .neq
      simp only [Bool.not_false] at hE
      clear hok
      go_enter Try.func10, Try.ntmps10
      go_wp2_with fail
      refine (phas_any A n c l _ _ HX.out).mono ?_
      rw [decide_eq_true HH.out]
      rintro e w1 ⟨rfl, b1⟩
      have B1 := Lib.hid b1
      have HX1 := Lib.hid (HX.out.below b1)
      clear b1
      obtain ⟨b, o, rfl, hb, c0, c1, c2⟩ := HX1.out.at_ hkn
      rw [HZ.out] at c0 c1 c2
      simp only at c0 c1 c2
      go_wp2_with fail
      refine calm_region (S := fun U => Below w1.heap.size w1 U) (by kernel_rfl) (Below.refl _ _).drew ?_
      refine calm_to (i := 0) (t := 12) (v := .slice (some ⟨b, o, none⟩) n c) rfl rfl (by kernel_rfl) (by kernel_rfl) (by kernel_rfl) (fun _ _ _ h => h) (calm_move (by kernel_rfl) (.tmp 0) (.inl rfl) rfl) ?_
      simp only [List.setIfInBounds_toArray, List.set_cons_zero, List.set_cons_succ]
      refine calm_to (i := 1) (t := 13) (v := .int .i64 (k : Int)) rfl rfl (by kernel_rfl) (by kernel_rfl) (by kernel_rfl) (fun _ _ _ h => h) (calm_move (by kernel_rfl) (.tmp 1) (.inl rfl) rfl) ?_
      simp only [List.setIfInBounds_toArray, List.set_cons_zero, List.set_cons_succ]
      refine calm_to (i := 2) (t := 14) (v := .pointer (some ⟨b, o + k * 3, none⟩)) rfl rfl (by kernel_rfl) (by kernel_rfl) (by kernel_rfl) (fun _ _ _ h => h) (calm_of (by kernel_rfl) (fun U hU => by go_simp)) ?_
      simp only [List.setIfInBounds_toArray, List.set_cons_zero, List.set_cons_succ]
      refine calm_to (i := 3) (t := 15) (v := .agg #[.bool true, .bool r1, .int .i64 z1]) rfl rfl (by kernel_rfl) (by kernel_rfl) (by kernel_rfl) (fun _ _ _ h => h) (calm_of (by kernel_rfl) (fun U hU => by have hc0 := (hU.cell (p := ⟨b, o + k * 3, none⟩) hb).trans c0; have hc1 := (hU.cell (p := ⟨b, o + k * 3 + 1, none⟩) hb).trans c1; have hc2 := (hU.cell (p := ⟨b, o + k * 3 + 2, none⟩) hb).trans c2; have hl := Nat.lt_of_lt_of_le hb hU.size; go_simp)) ?_
      simp only [List.setIfInBounds_toArray, List.set_cons_zero, List.set_cons_succ]
      refine calm_to (i := 4) (t := 16) (v := .agg #[.bool false, .bool false, .int .i64 (-1)]) rfl rfl (by kernel_rfl) (by kernel_rfl) (by kernel_rfl) (fun _ _ _ h => h) (calm_call0 (by kernel_rfl) 30 rfl (enters_of Try.func30 (by kernel_rfl) rfl) (fun U hU => (nothing_any U).mono fun _ _ q => ⟨q.1, below3 hU q.2⟩)) ?_
      simp only [List.setIfInBounds_toArray, List.set_cons_zero, List.set_cons_succ]
      refine calm_to (i := 5) (t := 17) (v := .bool true) rfl rfl (by kernel_rfl) (by kernel_rfl) (by kernel_rfl) (fun _ _ _ h => h) (calm_of (by kernel_rfl) (fun U hU => by go_simp)) ?_
      simp only [List.setIfInBounds_toArray, List.set_cons_zero, List.set_cons_succ]
      refine calm_to (i := 6) (t := 11) (v := .bool true) rfl rfl (by kernel_rfl) (by kernel_rfl) (by kernel_rfl) (fun _ _ _ h => h) (calm_move (by kernel_rfl) (.tmp 17) (.inr rfl) rfl) ?_
      simp only [List.setIfInBounds_toArray, List.set_cons_zero, List.set_cons_succ]
      refine calm_done (by kernel_rfl) (fun U hU => ?_) _
      replace c0 := (hU.cell (p := ⟨b, o + k * 3, none⟩) hb).trans c0
      replace c1 := (hU.cell (p := ⟨b, o + k * 3 + 1, none⟩) hb).trans c1
      replace c2 := (hU.cell (p := ⟨b, o + k * 3 + 2, none⟩) hb).trans c2
      replace hb := Nat.lt_of_lt_of_le hb hU.size
      replace B1 := Lib.hid (below3 B1.out hU)
      replace HX1 := Lib.hid (HX1.out.below hU)
      clear hU hE hG
      go_wp2_with fail
      exact bodyPost_ret (v := .tuple #[.slice none 0 0, .int .i64 6]) (by simp [results, Try.results10, go_sem]) rfl ⟨none, 0, rfl, OwnD.nil_ _ _ _, B1.out⟩
    | false =>
      obtain ⟨hr0, hz0⟩ := hok.1 rfl
      simp only at hr0 hz0
      subst hr0 hz0
      clear hok
      obtain ⟨p, hp⟩ : ∃ p, l.set k quiD = p := ⟨_, rfl⟩
      have HP := Lib.hid hp
      rw [show openR l (k : Int) = (0, p) by unfold openR; rw [if_pos HH.out, Int.toNat_natCast, HZ.out, hp]; rfl]
      clear hp
      have hE := neq_fd false false (-1) false false (-1)
      rw [show decide (((false, false, -1) : Ds) = (false, false, -1)) = true from rfl] at hE
      have hG := guard_fd .neq
      simp only [Bool.not_true] at hE
      go_enter Try.func10, Try.ntmps10
      go_wp2_with fail
      refine (phas_any A n c l _ _ HX.out).mono ?_
      rw [decide_eq_true HH.out]
      rintro e w1 ⟨rfl, b1⟩
      have B1 := Lib.hid b1
      have HX1 := Lib.hid (HX.out.below b1)
      clear b1
      obtain ⟨b, o, rfl, hb, c0, c1, c2⟩ := HX1.out.at_ hkn
      rw [HZ.out] at c0 c1 c2
      simp only at c0 c1 c2
      go_wp2_with fail
      refine calm_region (S := fun U => Below w1.heap.size w1 U) (by kernel_rfl) (Below.refl _ _).drew ?_
      refine calm_to (i := 0) (t := 12) (v := .slice (some ⟨b, o, none⟩) n c) rfl rfl (by kernel_rfl) (by kernel_rfl) (by kernel_rfl) (fun _ _ _ h => h) (calm_move (by kernel_rfl) (.tmp 0) (.inl rfl) rfl) ?_
      simp only [List.setIfInBounds_toArray, List.set_cons_zero, List.set_cons_succ]
      refine calm_to (i := 1) (t := 13) (v := .int .i64 (k : Int)) rfl rfl (by kernel_rfl) (by kernel_rfl) (by kernel_rfl) (fun _ _ _ h => h) (calm_move (by kernel_rfl) (.tmp 1) (.inl rfl) rfl) ?_
      simp only [List.setIfInBounds_toArray, List.set_cons_zero, List.set_cons_succ]
      refine calm_to (i := 2) (t := 14) (v := .pointer (some ⟨b, o + k * 3, none⟩)) rfl rfl (by kernel_rfl) (by kernel_rfl) (by kernel_rfl) (fun _ _ _ h => h) (calm_of (by kernel_rfl) (fun U hU => by go_simp)) ?_
      simp only [List.setIfInBounds_toArray, List.set_cons_zero, List.set_cons_succ]
      refine calm_to (i := 3) (t := 15) (v := .agg #[.bool false, .bool false, .int .i64 (-1)]) rfl rfl (by kernel_rfl) (by kernel_rfl) (by kernel_rfl) (fun _ _ _ h => h) (calm_of (by kernel_rfl) (fun U hU => by have hc0 := (hU.cell (p := ⟨b, o + k * 3, none⟩) hb).trans c0; have hc1 := (hU.cell (p := ⟨b, o + k * 3 + 1, none⟩) hb).trans c1; have hc2 := (hU.cell (p := ⟨b, o + k * 3 + 2, none⟩) hb).trans c2; have hl := Nat.lt_of_lt_of_le hb hU.size; go_simp)) ?_
      simp only [List.setIfInBounds_toArray, List.set_cons_zero, List.set_cons_succ]
      refine calm_to (i := 4) (t := 16) (v := .agg #[.bool false, .bool false, .int .i64 (-1)]) rfl rfl (by kernel_rfl) (by kernel_rfl) (by kernel_rfl) (fun _ _ _ h => h) (calm_call0 (by kernel_rfl) 30 rfl (enters_of Try.func30 (by kernel_rfl) rfl) (fun U hU => (nothing_any U).mono fun _ _ q => ⟨q.1, below3 hU q.2⟩)) ?_
      simp only [List.setIfInBounds_toArray, List.set_cons_zero, List.set_cons_succ]
      refine calm_to (i := 5) (t := 17) (v := .bool false) rfl rfl (by kernel_rfl) (by kernel_rfl) (by kernel_rfl) (fun _ _ _ h => h) (calm_of (by kernel_rfl) (fun U hU => by go_simp)) ?_
      simp only [List.setIfInBounds_toArray, List.set_cons_zero, List.set_cons_succ]
      refine calm_to (i := 6) (t := 11) (v := .bool false) rfl rfl (by kernel_rfl) (by kernel_rfl) (by kernel_rfl) (fun _ _ _ h => h) (calm_move (by kernel_rfl) (.tmp 17) (.inr rfl) rfl) ?_
      simp only [List.setIfInBounds_toArray, List.set_cons_zero, List.set_cons_succ]
      refine calm_done (by kernel_rfl) (fun U hU => ?_) _
      replace c0 := (hU.cell (p := ⟨b, o + k * 3, none⟩) hb).trans c0
      replace c1 := (hU.cell (p := ⟨b, o + k * 3 + 1, none⟩) hb).trans c1
      replace c2 := (hU.cell (p := ⟨b, o + k * 3 + 2, none⟩) hb).trans c2
      replace hb := Nat.lt_of_lt_of_le hb hU.size
      replace B1 := Lib.hid (below3 B1.out hU)
      replace HX1 := Lib.hid (HX1.out.below hU)
      clear hU hE hG
      go_wp2_with fail
      refine (quiet_any _).mono ?_
      rintro e w2 ⟨rfl, b2⟩
      have B1 := Lib.hid (below3 B1.out b2)
      have HX1 := Lib.hid (HX1.out.below b2)
      clear b2
      go_wp2_with fail
      refine (pwith_any _ n c l k true false (-1) _ HX1.out hkn hn (by decide)).mono ?_
      rw [HP.out]
      rintro e w3 ⟨A2, d2, rfl, p2, b3⟩
      have O2 := Lib.hid (p2.base B1.out.size)
      have B2 := Lib.hid (below3 B1.out b3)
      clear p2 b3
      go_wp2_with fail
      exact bodyPost_ret (v := .tuple #[.slice A2 p.length d2, .int .i64 0]) (by simp [results, Try.results10, go_sem]) rfl ⟨A2, d2, rfl, O2.out, B2.out⟩
  · rw [show openR l i = (1, []) by unfold openR; rw [if_neg hh]]
    have HH := Lib.hid hh
    clear hh
    go_enter Try.func10, Try.ntmps10
    go_wp2_with fail
    refine (phas_any A n c l _ _ HX.out).mono ?_
    rw [decide_eq_false HH.out]
    rintro e w1 ⟨rfl, b1⟩
    have B1 := Lib.hid b1
    have HX1 := Lib.hid (HX.out.below b1)
    clear b1
    go_wp2_with fail
    exact bodyPost_ret (v := .tuple #[.slice none 0 0, .int .i64 1]) (by simp [results, Try.results10, go_sem]) rfl ⟨none, 0, rfl, OwnD.nil_ _ _ _, B1.out⟩

set_option maxHeartbeats 2000000 in
theorem pshut_any (A : Option Addr) (n c : Nat) (l : List Ds) (i : Int) (w : World) (hx : Dss w A n c l) (hn : n ≤ 1000) :
    Calls Try.prog 12 #[.slice A n c, .int .i64 i] w (WhoD (shutR l i) w) := by
  have HX := Lib.hid hx
  have LX := Lib.hid hx.1
  have hnc := hx.2.1
  clear hx
  by_cases hh : hasD l i
  · obtain ⟨k, rfl, hkl⟩ := has_nat hh
    have hkn : k < n := by rw [← LX.out]; exact hkl
    have HH := Lib.hid hh
    clear hh
    obtain ⟨⟨o1, r1, z1⟩, hz⟩ : ∃ x, dth l k = x := ⟨_, rfl⟩
    have HZ := Lib.hid hz
    have HW := Lib.hid (who_def l k hz)
    have hok : okD (o1, r1, z1) := by rw [← hz]; exact (HH.out.1.2 k hkl).1
    have FZ : Hid (Fit z1) := Lib.hid (by have := HX.out.fit hkn; rw [hz] at this; exact this)
    clear hz
    cases o1 with
    | false =>
      obtain ⟨hr0, hz0⟩ := hok.1 rfl
      simp only at hr0 hz0
      subst hr0 hz0
      clear hok
      rw [show shutR l (k : Int) = (5, 0, []) by unfold shutR; rw [if_pos HH.out, Int.toNat_natCast, HZ.out]; rfl]
      have hE := eql_fd false false (-1) false false (-1)
      rw [show decide (((false, false, -1) : Ds) = (false, false, -1)) = true from rfl] at hE
      have hG := guard_fd .eql
      go_enter Try.func12, Try.ntmps12
      go_wp2_with fail
      refine (phas_any A n c l _ _ HX.out).mono ?_
      rw [decide_eq_true HH.out]
      rintro e w1 ⟨rfl, b1⟩
      have B1 := Lib.hid b1
      have HX1 := Lib.hid (HX.out.below b1)
      clear b1
      obtain ⟨b, o, rfl, hb, c0, c1, c2⟩ := HX1.out.at_ hkn
      rw [HZ.out] at c0 c1 c2
      simp only at c0 c1 c2
      go_wp2_with fail
      refine calm_region (S := fun U => Below w1.heap.size w1 U) (by kernel_rfl) (Below.refl _ _).drew ?_
      refine calm_to (i := 0) (t := 13) (v := .slice (some ⟨b, o, none⟩) n c) rfl rfl (by kernel_rfl) (by kernel_rfl) (by kernel_rfl) (fun _ _ _ h => h) (calm_move (by kernel_rfl) (.tmp 0) (.inl rfl) rfl) ?_
      simp only [List.setIfInBounds_toArray, List.set_cons_zero, List.set_cons_succ]
      refine calm_to (i := 1) (t := 14) (v := .int .i64 (k : Int)) rfl rfl (by kernel_rfl) (by kernel_rfl) (by kernel_rfl) (fun _ _ _ h => h) (calm_move (by kernel_rfl) (.tmp 1) (.inl rfl) rfl) ?_
      simp only [List.setIfInBounds_toArray, List.set_cons_zero, List.set_cons_succ]
      refine calm_to (i := 2) (t := 15) (v := .pointer (some ⟨b, o + k * 3, none⟩)) rfl rfl (by kernel_rfl) (by kernel_rfl) (by kernel_rfl) (fun _ _ _ h => h) (calm_of (by kernel_rfl) (fun U hU => by go_simp)) ?_
      simp only [List.setIfInBounds_toArray, List.set_cons_zero, List.set_cons_succ]
      refine calm_to (i := 3) (t := 16) (v := .agg #[.bool false, .bool false, .int .i64 (-1)]) rfl rfl (by kernel_rfl) (by kernel_rfl) (by kernel_rfl) (fun _ _ _ h => h) (calm_of (by kernel_rfl) (fun U hU => by have hc0 := (hU.cell (p := ⟨b, o + k * 3, none⟩) hb).trans c0; have hc1 := (hU.cell (p := ⟨b, o + k * 3 + 1, none⟩) hb).trans c1; have hc2 := (hU.cell (p := ⟨b, o + k * 3 + 2, none⟩) hb).trans c2; have hl := Nat.lt_of_lt_of_le hb hU.size; go_simp)) ?_
      simp only [List.setIfInBounds_toArray, List.set_cons_zero, List.set_cons_succ]
      refine calm_to (i := 4) (t := 17) (v := .agg #[.bool false, .bool false, .int .i64 (-1)]) rfl rfl (by kernel_rfl) (by kernel_rfl) (by kernel_rfl) (fun _ _ _ h => h) (calm_call0 (by kernel_rfl) 30 rfl (enters_of Try.func30 (by kernel_rfl) rfl) (fun U hU => (nothing_any U).mono fun _ _ q => ⟨q.1, below3 hU q.2⟩)) ?_
      simp only [List.setIfInBounds_toArray, List.set_cons_zero, List.set_cons_succ]
      refine calm_to (i := 5) (t := 18) (v := .bool true) rfl rfl (by kernel_rfl) (by kernel_rfl) (by kernel_rfl) (fun _ _ _ h => h) (calm_of (by kernel_rfl) (fun U hU => by go_simp)) ?_
      simp only [List.setIfInBounds_toArray, List.set_cons_zero, List.set_cons_succ]
      refine calm_to (i := 6) (t := 12) (v := .bool true) rfl rfl (by kernel_rfl) (by kernel_rfl) (by kernel_rfl) (fun _ _ _ h => h) (calm_move (by kernel_rfl) (.tmp 18) (.inr rfl) rfl) ?_
      simp only [List.setIfInBounds_toArray, List.set_cons_zero, List.set_cons_succ]
      refine calm_done (by kernel_rfl) (fun U hU => ?_) _
      replace c0 := (hU.cell (p := ⟨b, o + k * 3, none⟩) hb).trans c0
      replace c1 := (hU.cell (p := ⟨b, o + k * 3 + 1, none⟩) hb).trans c1
      replace c2 := (hU.cell (p := ⟨b, o + k * 3 + 2, none⟩) hb).trans c2
      replace hb := Nat.lt_of_lt_of_le hb hU.size
      replace B1 := Lib.hid (below3 B1.out hU)
      replace HX1 := Lib.hid (HX1.out.below hU)
      clear hU hE hG
      go_wp2_with fail
      exact bodyPost_ret (v := .tuple #[.int .i64 0, .slice none 0 0, .int .i64 5]) (by simp [results, Try.results12, go_sem]) rfl ⟨none, 0, rfl, OwnD.nil_ _ _ _, B1.out⟩
    | true =>
      obtain ⟨p, hp⟩ : ∃ p, l.set k nilD = p := ⟨_, rfl⟩
      have HP := Lib.hid hp
      rw [show shutR l (k : Int) = (0, z1, p) by unfold shutR; rw [if_pos HH.out, Int.toNat_natCast, HZ.out, HW.out, hp]; rfl]
      clear hok hp
      have hE := eql_fd true r1 z1 false false (-1)
      rw [show decide (((true, r1, z1) : Ds) = (false, false, -1)) = false from decide_eq_false (fun q => by cases q)] at hE
      have hG := guard_fd .eql
      go_enter Try.func12, Try.ntmps12
      go_wp2_with fail
      refine (phas_any A n c l _ _ HX.out).mono ?_
      rw [decide_eq_true HH.out]
      rintro e w1 ⟨rfl, b1⟩
      have B1 := Lib.hid b1
      have HX1 := Lib.hid (HX.out.below b1)
      clear b1
      obtain ⟨b, o, rfl, hb, c0, c1, c2⟩ := HX1.out.at_ hkn
      rw [HZ.out] at c0 c1 c2
      simp only at c0 c1 c2
      go_wp2_with fail
      refine calm_region (S := fun U => Below w1.heap.size w1 U) (by kernel_rfl) (Below.refl _ _).drew ?_
      refine calm_to (i := 0) (t := 13) (v := .slice (some ⟨b, o, none⟩) n c) rfl rfl (by kernel_rfl) (by kernel_rfl) (by kernel_rfl) (fun _ _ _ h => h) (calm_move (by kernel_rfl) (.tmp 0) (.inl rfl) rfl) ?_
      simp only [List.setIfInBounds_toArray, List.set_cons_zero, List.set_cons_succ]
      refine calm_to (i := 1) (t := 14) (v := .int .i64 (k : Int)) rfl rfl (by kernel_rfl) (by kernel_rfl) (by kernel_rfl) (fun _ _ _ h => h) (calm_move (by kernel_rfl) (.tmp 1) (.inl rfl) rfl) ?_
      simp only [List.setIfInBounds_toArray, List.set_cons_zero, List.set_cons_succ]
      refine calm_to (i := 2) (t := 15) (v := .pointer (some ⟨b, o + k * 3, none⟩)) rfl rfl (by kernel_rfl) (by kernel_rfl) (by kernel_rfl) (fun _ _ _ h => h) (calm_of (by kernel_rfl) (fun U hU => by go_simp)) ?_
      simp only [List.setIfInBounds_toArray, List.set_cons_zero, List.set_cons_succ]
      refine calm_to (i := 3) (t := 16) (v := .agg #[.bool true, .bool r1, .int .i64 z1]) rfl rfl (by kernel_rfl) (by kernel_rfl) (by kernel_rfl) (fun _ _ _ h => h) (calm_of (by kernel_rfl) (fun U hU => by have hc0 := (hU.cell (p := ⟨b, o + k * 3, none⟩) hb).trans c0; have hc1 := (hU.cell (p := ⟨b, o + k * 3 + 1, none⟩) hb).trans c1; have hc2 := (hU.cell (p := ⟨b, o + k * 3 + 2, none⟩) hb).trans c2; have hl := Nat.lt_of_lt_of_le hb hU.size; go_simp)) ?_
      simp only [List.setIfInBounds_toArray, List.set_cons_zero, List.set_cons_succ]
      refine calm_to (i := 4) (t := 17) (v := .agg #[.bool false, .bool false, .int .i64 (-1)]) rfl rfl (by kernel_rfl) (by kernel_rfl) (by kernel_rfl) (fun _ _ _ h => h) (calm_call0 (by kernel_rfl) 30 rfl (enters_of Try.func30 (by kernel_rfl) rfl) (fun U hU => (nothing_any U).mono fun _ _ q => ⟨q.1, below3 hU q.2⟩)) ?_
      simp only [List.setIfInBounds_toArray, List.set_cons_zero, List.set_cons_succ]
      refine calm_to (i := 5) (t := 18) (v := .bool false) rfl rfl (by kernel_rfl) (by kernel_rfl) (by kernel_rfl) (fun _ _ _ h => h) (calm_of (by kernel_rfl) (fun U hU => by go_simp)) ?_
      simp only [List.setIfInBounds_toArray, List.set_cons_zero, List.set_cons_succ]
      refine calm_to (i := 6) (t := 12) (v := .bool false) rfl rfl (by kernel_rfl) (by kernel_rfl) (by kernel_rfl) (fun _ _ _ h => h) (calm_move (by kernel_rfl) (.tmp 18) (.inr rfl) rfl) ?_
      simp only [List.setIfInBounds_toArray, List.set_cons_zero, List.set_cons_succ]
      refine calm_done (by kernel_rfl) (fun U hU => ?_) _
      replace c0 := (hU.cell (p := ⟨b, o + k * 3, none⟩) hb).trans c0
      replace c1 := (hU.cell (p := ⟨b, o + k * 3 + 1, none⟩) hb).trans c1
      replace c2 := (hU.cell (p := ⟨b, o + k * 3 + 2, none⟩) hb).trans c2
      replace hb := Nat.lt_of_lt_of_le hb hU.size
      replace B1 := Lib.hid (below3 B1.out hU)
      replace HX1 := Lib.hid (HX1.out.below hU)
      clear hU hE hG
      go_wp2_with fail
      refine wp_region_held (S := fun U => b < U.heap.size ∧ U.cell? ⟨b, o + k * 3 + 2, none⟩ = some (.int .i64 z1)) (by kernel_rfl) ?_
      change wpAnyH _ _ _ _ _ _ _ _ (World.drew U)
      have hS0 : b < U.drew.heap.size ∧ U.drew.cell? ⟨b, o + k * 3 + 2, none⟩ = some (.int .i64 z1) := ⟨hb, c2⟩
      have HX2 := Lib.hid (HX1.out.below (Below.refl _ _).drew)
      have B2 := Lib.hid (B1.out.drew)
      generalize U.drew = U0 at hS0 HX2 B2 ⊢
      clear hb c0 c1 c2 HX1 B1
      refine take_at (i := 0) (d := 19) (v := .slice (some ⟨b, o, none⟩) n c) rfl rfl (by kernel_rfl) (by kernel_rfl) (by kernel_rfl) (fun _ _ _ h => h) (.inl ⟨by kernel_rfl, fun U hU => by go_simp⟩) hS0 ?_
      simp only [Act.put, List.setIfInBounds_toArray, List.set_cons_zero, List.set_cons_succ]
      refine take_at (i := 1) (d := 20) (v := .int .i64 (k : Int)) rfl rfl (by kernel_rfl) (by kernel_rfl) (by kernel_rfl) (fun _ _ _ h => h) (.inl ⟨by kernel_rfl, fun U hU => by go_simp⟩) hS0 ?_
      simp only [Act.put, List.setIfInBounds_toArray, List.set_cons_zero, List.set_cons_succ]
      refine take_at (i := 2) (d := 21) (v := .pointer (some ⟨b, o + k * 3, none⟩)) rfl rfl (by kernel_rfl) (by kernel_rfl) (by kernel_rfl) (fun _ _ _ h => h) (.inl ⟨by kernel_rfl, fun U hU => by go_simp⟩) hS0 ?_
      simp only [Act.put, List.setIfInBounds_toArray, List.set_cons_zero, List.set_cons_succ]
      refine take_at (i := 3) (d := 22) (v := .pointer (some ⟨b, o + k * 3 + 2, none⟩)) rfl rfl (by kernel_rfl) (by kernel_rfl) (by kernel_rfl) (fun _ _ _ h => h) (.inl ⟨by kernel_rfl, fun U hU => by go_simp⟩) hS0 ?_
      simp only [Act.put, List.setIfInBounds_toArray, List.set_cons_zero, List.set_cons_succ]
      refine take_at (i := 4) (d := 23) (v := .int .i64 z1) rfl rfl (by kernel_rfl) (by kernel_rfl) (by kernel_rfl) (fun _ _ _ h => h) (.inl ⟨by kernel_rfl, fun U hU => by obtain ⟨hl, hc⟩ := hU; go_simp⟩) hS0 ?_
      simp only [Act.put, List.setIfInBounds_toArray, List.set_cons_zero, List.set_cons_succ]
      refine take_at (i := 5) (d := 24) (v := .slice (some ⟨b, o, none⟩) n c) rfl rfl (by kernel_rfl) (by kernel_rfl) (by kernel_rfl) (fun _ _ _ h => h) (.inl ⟨by kernel_rfl, fun U hU => by go_simp⟩) hS0 ?_
      simp only [Act.put, List.setIfInBounds_toArray, List.set_cons_zero, List.set_cons_succ]
      refine take_at (i := 6) (d := 25) (v := .int .i64 (k : Int)) rfl rfl (by kernel_rfl) (by kernel_rfl) (by kernel_rfl) (fun _ _ _ h => h) (.inl ⟨by kernel_rfl, fun U hU => by go_simp⟩) hS0 ?_
      simp only [Act.put, List.setIfInBounds_toArray, List.set_cons_zero, List.set_cons_succ]
      refine wpAnyH_all (rs := [7]) (by kernel_rfl) (by simp) ?_
      intro i hi
      simp only [List.mem_cons, List.not_mem_nil, or_false] at hi
      subst hi
      unfold wpOp
      go_simp
      left
      refine (nothing_any _).mono ?_
      rintro e U1 ⟨rfl, b1⟩
      have hS1 : b < U1.heap.size ∧ U1.cell? ⟨b, o + k * 3 + 2, none⟩ = some (.int .i64 z1) := ⟨Nat.lt_of_lt_of_le hS0.1 b1.size, (b1.cell (p := ⟨b, o + k * 3 + 2, none⟩) hS0.1).trans hS0.2⟩
      have HX3 := Lib.hid (HX2.out.below b1)
      have B3 := Lib.hid (below3 B2.out b1)
      refine ⟨hS1, ?_⟩
      clear b1 hS0 HX2 B2
      refine wpAnyH_all (rs := [8]) (by kernel_rfl) (by simp) ?_
      intro i hi
      simp only [List.mem_cons, List.not_mem_nil, or_false] at hi
      subst hi
      unfold wpOp
      go_simp
      left
      refine (pwith_any _ n c l k false false (-1) _ HX3.out hkn hn (by decide)).mono ?_
      rw [HP.out]
      rintro e U2 ⟨A2, d2, rfl, p2, b2⟩
      have hS2 : b < U2.heap.size ∧ U2.cell? ⟨b, o + k * 3 + 2, none⟩ = some (.int .i64 z1) := ⟨Nat.lt_of_lt_of_le hS1.1 b2.size, (b2.cell (p := ⟨b, o + k * 3 + 2, none⟩) hS1.1).trans hS1.2⟩
      have O2 := Lib.hid (p2.base B3.out.size)
      have BF := Lib.hid (below3 B3.out b2)
      refine ⟨hS2, ?_⟩
      clear b2 p2
      refine take_at (i := 9) (d := 4) (v := .int .i64 z1) rfl rfl (by kernel_rfl) (by kernel_rfl) (by kernel_rfl) (fun _ _ _ h => h) (.inl ⟨by kernel_rfl, fun U hU => by go_simp⟩) hS2 ?_
      simp only [Act.put, List.setIfInBounds_toArray, List.set_cons_zero, List.set_cons_succ]
      refine take_at (i := 10) (d := 5) (v := .slice A2 p.length d2) rfl rfl (by kernel_rfl) (by kernel_rfl) (by kernel_rfl) (fun _ _ _ h => h) (.inl ⟨by kernel_rfl, fun U hU => by go_simp⟩) hS2 ?_
      simp only [Act.put, List.setIfInBounds_toArray, List.set_cons_zero, List.set_cons_succ]
      refine take_at (i := 11) (d := 6) (v := .int .i64 0) rfl rfl (by kernel_rfl) (by kernel_rfl) (by kernel_rfl) (fun _ _ _ h => h) (.inl ⟨by kernel_rfl, fun U hU => by go_simp⟩) hS2 ?_
      simp only [Act.put, List.setIfInBounds_toArray, List.set_cons_zero, List.set_cons_succ]
      refine wpAnyH_done (by kernel_rfl) ?_ _
      go_wp2_with fail
      exact bodyPost_ret (v := .tuple #[.int .i64 z1, .slice A2 p.length d2, .int .i64 0]) (by simp [results, Try.results12, go_sem]) rfl ⟨A2, d2, rfl, O2.out, BF.out⟩
  · rw [show shutR l i = (1, 0, []) by unfold shutR; rw [if_neg hh]]
    have HH := Lib.hid hh
    clear hh
    go_enter Try.func12, Try.ntmps12
    go_wp2_with fail
    refine (phas_any A n c l _ _ HX.out).mono ?_
    rw [decide_eq_false HH.out]
    rintro e w1 ⟨rfl, b1⟩
    have B1 := Lib.hid b1
    have HX1 := Lib.hid (HX.out.below b1)
    clear b1
    go_wp2_with fail
    exact bodyPost_ret (v := .tuple #[.int .i64 0, .slice none 0 0, .int .i64 1]) (by simp [results, Try.results12, go_sem]) rfl ⟨none, 0, rfl, OwnD.nil_ _ _ _, B1.out⟩

set_option maxHeartbeats 2000000 in
theorem pfire_any (A : Option Addr) (n c : Nat) (l : List Ds) (i : Int) (w : World) (hx : Dss w A n c l) (hn : n ≤ 1000) :
    Calls Try.prog 16 #[.slice A n c, .int .i64 i] w (WhoD (fireR l i) w) := by
  have HX := Lib.hid hx
  have LX := Lib.hid hx.1
  have hnc := hx.2.1
  clear hx
  by_cases hh : hasD l i
  · obtain ⟨k, rfl, hkl⟩ := has_nat hh
    have hkn : k < n := by rw [← LX.out]; exact hkl
    have HH := Lib.hid hh
    clear hh
    obtain ⟨⟨o1, r1, z1⟩, hz⟩ : ∃ x, dth l k = x := ⟨_, rfl⟩
    have HZ := Lib.hid hz
    have HW := Lib.hid (who_def l k hz)
    have hok : okD (o1, r1, z1) := by rw [← hz]; exact (HH.out.1.2 k hkl).1
    have FZ : Hid (Fit z1) := Lib.hid (by have := HX.out.fit hkn; rw [hz] at this; exact this)
    clear hz
    cases o1 with
    | false =>
      obtain ⟨hr0, hz0⟩ := hok.1 rfl
      simp only at hr0 hz0
      subst hr0 hz0
      clear hok
      rw [show fireR l (k : Int) = (5, 0, []) by unfold fireR; rw [if_pos HH.out, Int.toNat_natCast, HZ.out]; rfl]
      have hE := eql_fd false false (-1) false false (-1)
      rw [show decide (((false, false, -1) : Ds) = (false, false, -1)) = true from rfl] at hE
      have hG := guard_fd .eql
      go_enter Try.func16, Try.ntmps16
      go_wp2_with fail
      refine (phas_any A n c l _ _ HX.out).mono ?_
      rw [decide_eq_true HH.out]
      rintro e w1 ⟨rfl, b1⟩
      have B1 := Lib.hid b1
      have HX1 := Lib.hid (HX.out.below b1)
      clear b1
      obtain ⟨b, o, rfl, hb, c0, c1, c2⟩ := HX1.out.at_ hkn
      rw [HZ.out] at c0 c1 c2
      simp only at c0 c1 c2
      go_wp2_with fail
      refine calm_region (S := fun U => Below w1.heap.size w1 U) (by kernel_rfl) (Below.refl _ _).drew ?_
      refine calm_to (i := 0) (t := 13) (v := .slice (some ⟨b, o, none⟩) n c) rfl rfl (by kernel_rfl) (by kernel_rfl) (by kernel_rfl) (fun _ _ _ h => h) (calm_move (by kernel_rfl) (.tmp 0) (.inl rfl) rfl) ?_
      simp only [List.setIfInBounds_toArray, List.set_cons_zero, List.set_cons_succ]
      refine calm_to (i := 1) (t := 14) (v := .int .i64 (k : Int)) rfl rfl (by kernel_rfl) (by kernel_rfl) (by kernel_rfl) (fun _ _ _ h => h) (calm_move (by kernel_rfl) (.tmp 1) (.inl rfl) rfl) ?_
      simp only [List.setIfInBounds_toArray, List.set_cons_zero, List.set_cons_succ]
      refine calm_to (i := 2) (t := 15) (v := .pointer (some ⟨b, o + k * 3, none⟩)) rfl rfl (by kernel_rfl) (by kernel_rfl) (by kernel_rfl) (fun _ _ _ h => h) (calm_of (by kernel_rfl) (fun U hU => by go_simp)) ?_
      simp only [List.setIfInBounds_toArray, List.set_cons_zero, List.set_cons_succ]
      refine calm_to (i := 3) (t := 16) (v := .agg #[.bool false, .bool false, .int .i64 (-1)]) rfl rfl (by kernel_rfl) (by kernel_rfl) (by kernel_rfl) (fun _ _ _ h => h) (calm_of (by kernel_rfl) (fun U hU => by have hc0 := (hU.cell (p := ⟨b, o + k * 3, none⟩) hb).trans c0; have hc1 := (hU.cell (p := ⟨b, o + k * 3 + 1, none⟩) hb).trans c1; have hc2 := (hU.cell (p := ⟨b, o + k * 3 + 2, none⟩) hb).trans c2; have hl := Nat.lt_of_lt_of_le hb hU.size; go_simp)) ?_
      simp only [List.setIfInBounds_toArray, List.set_cons_zero, List.set_cons_succ]
      refine calm_to (i := 4) (t := 17) (v := .agg #[.bool false, .bool false, .int .i64 (-1)]) rfl rfl (by kernel_rfl) (by kernel_rfl) (by kernel_rfl) (fun _ _ _ h => h) (calm_call0 (by kernel_rfl) 30 rfl (enters_of Try.func30 (by kernel_rfl) rfl) (fun U hU => (nothing_any U).mono fun _ _ q => ⟨q.1, below3 hU q.2⟩)) ?_
      simp only [List.setIfInBounds_toArray, List.set_cons_zero, List.set_cons_succ]
      refine calm_to (i := 5) (t := 18) (v := .bool true) rfl rfl (by kernel_rfl) (by kernel_rfl) (by kernel_rfl) (fun _ _ _ h => h) (calm_of (by kernel_rfl) (fun U hU => by go_simp)) ?_
      simp only [List.setIfInBounds_toArray, List.set_cons_zero, List.set_cons_succ]
      refine calm_to (i := 6) (t := 12) (v := .bool true) rfl rfl (by kernel_rfl) (by kernel_rfl) (by kernel_rfl) (fun _ _ _ h => h) (calm_move (by kernel_rfl) (.tmp 18) (.inr rfl) rfl) ?_
      simp only [List.setIfInBounds_toArray, List.set_cons_zero, List.set_cons_succ]
      refine calm_done (by kernel_rfl) (fun U hU => ?_) _
      replace c0 := (hU.cell (p := ⟨b, o + k * 3, none⟩) hb).trans c0
      replace c1 := (hU.cell (p := ⟨b, o + k * 3 + 1, none⟩) hb).trans c1
      replace c2 := (hU.cell (p := ⟨b, o + k * 3 + 2, none⟩) hb).trans c2
      replace hb := Nat.lt_of_lt_of_le hb hU.size
      replace B1 := Lib.hid (below3 B1.out hU)
      replace HX1 := Lib.hid (HX1.out.below hU)
      clear hU hE hG
      go_wp2_with fail
      exact bodyPost_ret (v := .tuple #[.int .i64 0, .slice none 0 0, .int .i64 5]) (by simp [results, Try.results16, go_sem]) rfl ⟨none, 0, rfl, OwnD.nil_ _ _ _, B1.out⟩
    | true =>
      by_cases h0 : 0 ≤ z1
      · obtain ⟨p, hp⟩ : ∃ p, l.set k quiD = p := ⟨_, rfl⟩
        have HP := Lib.hid hp
        rw [show fireR l (k : Int) = (0, z1, p) by unfold fireR; rw [if_pos HH.out, Int.toNat_natCast, HZ.out, HW.out, hp, if_pos rfl, if_pos h0]]
        have t0 : (z1 != -1) = true := by simp; omega
        clear hok hp h0
        have hE := eql_fd true r1 z1 false false (-1)
        rw [show decide (((true, r1, z1) : Ds) = (false, false, -1)) = false from decide_eq_false (fun q => by cases q)] at hE
        have hG := guard_fd .eql
        go_enter Try.func16, Try.ntmps16
        go_wp2_with fail
        refine (phas_any A n c l _ _ HX.out).mono ?_
        rw [decide_eq_true HH.out]
        rintro e w1 ⟨rfl, b1⟩
        have B1 := Lib.hid b1
        have HX1 := Lib.hid (HX.out.below b1)
        clear b1
        obtain ⟨b, o, rfl, hb, c0, c1, c2⟩ := HX1.out.at_ hkn
        rw [HZ.out] at c0 c1 c2
        simp only at c0 c1 c2
        go_wp2_with fail
        refine calm_region (S := fun U => Below w1.heap.size w1 U) (by kernel_rfl) (Below.refl _ _).drew ?_
        refine calm_to (i := 0) (t := 13) (v := .slice (some ⟨b, o, none⟩) n c) rfl rfl (by kernel_rfl) (by kernel_rfl) (by kernel_rfl) (fun _ _ _ h => h) (calm_move (by kernel_rfl) (.tmp 0) (.inl rfl) rfl) ?_
        simp only [List.setIfInBounds_toArray, List.set_cons_zero, List.set_cons_succ]
        refine calm_to (i := 1) (t := 14) (v := .int .i64 (k : Int)) rfl rfl (by kernel_rfl) (by kernel_rfl) (by kernel_rfl) (fun _ _ _ h => h) (calm_move (by kernel_rfl) (.tmp 1) (.inl rfl) rfl) ?_
        simp only [List.setIfInBounds_toArray, List.set_cons_zero, List.set_cons_succ]
        refine calm_to (i := 2) (t := 15) (v := .pointer (some ⟨b, o + k * 3, none⟩)) rfl rfl (by kernel_rfl) (by kernel_rfl) (by kernel_rfl) (fun _ _ _ h => h) (calm_of (by kernel_rfl) (fun U hU => by go_simp)) ?_
        simp only [List.setIfInBounds_toArray, List.set_cons_zero, List.set_cons_succ]
        refine calm_to (i := 3) (t := 16) (v := .agg #[.bool true, .bool r1, .int .i64 z1]) rfl rfl (by kernel_rfl) (by kernel_rfl) (by kernel_rfl) (fun _ _ _ h => h) (calm_of (by kernel_rfl) (fun U hU => by have hc0 := (hU.cell (p := ⟨b, o + k * 3, none⟩) hb).trans c0; have hc1 := (hU.cell (p := ⟨b, o + k * 3 + 1, none⟩) hb).trans c1; have hc2 := (hU.cell (p := ⟨b, o + k * 3 + 2, none⟩) hb).trans c2; have hl := Nat.lt_of_lt_of_le hb hU.size; go_simp)) ?_
        simp only [List.setIfInBounds_toArray, List.set_cons_zero, List.set_cons_succ]
        refine calm_to (i := 4) (t := 17) (v := .agg #[.bool false, .bool false, .int .i64 (-1)]) rfl rfl (by kernel_rfl) (by kernel_rfl) (by kernel_rfl) (fun _ _ _ h => h) (calm_call0 (by kernel_rfl) 30 rfl (enters_of Try.func30 (by kernel_rfl) rfl) (fun U hU => (nothing_any U).mono fun _ _ q => ⟨q.1, below3 hU q.2⟩)) ?_
        simp only [List.setIfInBounds_toArray, List.set_cons_zero, List.set_cons_succ]
        refine calm_to (i := 5) (t := 18) (v := .bool false) rfl rfl (by kernel_rfl) (by kernel_rfl) (by kernel_rfl) (fun _ _ _ h => h) (calm_of (by kernel_rfl) (fun U hU => by go_simp)) ?_
        simp only [List.setIfInBounds_toArray, List.set_cons_zero, List.set_cons_succ]
        refine calm_to (i := 6) (t := 12) (v := .bool false) rfl rfl (by kernel_rfl) (by kernel_rfl) (by kernel_rfl) (fun _ _ _ h => h) (calm_move (by kernel_rfl) (.tmp 18) (.inr rfl) rfl) ?_
        simp only [List.setIfInBounds_toArray, List.set_cons_zero, List.set_cons_succ]
        refine calm_done (by kernel_rfl) (fun U hU => ?_) _
        replace c0 := (hU.cell (p := ⟨b, o + k * 3, none⟩) hb).trans c0
        replace c1 := (hU.cell (p := ⟨b, o + k * 3 + 1, none⟩) hb).trans c1
        replace c2 := (hU.cell (p := ⟨b, o + k * 3 + 2, none⟩) hb).trans c2
        replace hb := Nat.lt_of_lt_of_le hb hU.size
        replace B1 := Lib.hid (below3 B1.out hU)
        replace HX1 := Lib.hid (HX1.out.below hU)
        clear hU hE hG
        go_wp2_with fail
        refine wp_region_held (S := fun U => b < U.heap.size ∧ U.cell? ⟨b, o + k * 3 + 2, none⟩ = some (.int .i64 z1)) (by kernel_rfl) ?_
        change wpAnyH _ _ _ _ _ _ _ _ (World.drew U)
        have hS0 : b < U.drew.heap.size ∧ U.drew.cell? ⟨b, o + k * 3 + 2, none⟩ = some (.int .i64 z1) := ⟨hb, c2⟩
        have HX2 := Lib.hid (HX1.out.below (Below.refl _ _).drew)
        have B2 := Lib.hid (B1.out.drew)
        generalize U.drew = U0 at hS0 HX2 B2 ⊢
        clear hb c0 c1 c2 HX1 B1
        refine take_at (i := 0) (d := 26) (v := .slice (some ⟨b, o, none⟩) n c) rfl rfl (by kernel_rfl) (by kernel_rfl) (by kernel_rfl) (fun _ _ _ h => h) (.inl ⟨by kernel_rfl, fun U hU => by go_simp⟩) hS0 ?_
        simp only [Act.put, List.setIfInBounds_toArray, List.set_cons_zero, List.set_cons_succ]
        refine take_at (i := 1) (d := 27) (v := .int .i64 (k : Int)) rfl rfl (by kernel_rfl) (by kernel_rfl) (by kernel_rfl) (fun _ _ _ h => h) (.inl ⟨by kernel_rfl, fun U hU => by go_simp⟩) hS0 ?_
        simp only [Act.put, List.setIfInBounds_toArray, List.set_cons_zero, List.set_cons_succ]
        refine take_at (i := 2) (d := 28) (v := .pointer (some ⟨b, o + k * 3, none⟩)) rfl rfl (by kernel_rfl) (by kernel_rfl) (by kernel_rfl) (fun _ _ _ h => h) (.inl ⟨by kernel_rfl, fun U hU => by go_simp⟩) hS0 ?_
        simp only [Act.put, List.setIfInBounds_toArray, List.set_cons_zero, List.set_cons_succ]
        refine take_at (i := 3) (d := 29) (v := .pointer (some ⟨b, o + k * 3 + 2, none⟩)) rfl rfl (by kernel_rfl) (by kernel_rfl) (by kernel_rfl) (fun _ _ _ h => h) (.inl ⟨by kernel_rfl, fun U hU => by go_simp⟩) hS0 ?_
        simp only [Act.put, List.setIfInBounds_toArray, List.set_cons_zero, List.set_cons_succ]
        refine take_at (i := 4) (d := 30) (v := .int .i64 z1) rfl rfl (by kernel_rfl) (by kernel_rfl) (by kernel_rfl) (fun _ _ _ h => h) (.inl ⟨by kernel_rfl, fun U hU => by obtain ⟨hl, hc⟩ := hU; go_simp⟩) hS0 ?_
        simp only [Act.put, List.setIfInBounds_toArray, List.set_cons_zero, List.set_cons_succ]
        refine take_at (i := 5) (d := 31) (v := .slice (some ⟨b, o, none⟩) n c) rfl rfl (by kernel_rfl) (by kernel_rfl) (by kernel_rfl) (fun _ _ _ h => h) (.inl ⟨by kernel_rfl, fun U hU => by go_simp⟩) hS0 ?_
        simp only [Act.put, List.setIfInBounds_toArray, List.set_cons_zero, List.set_cons_succ]
        refine take_at (i := 6) (d := 32) (v := .int .i64 (k : Int)) rfl rfl (by kernel_rfl) (by kernel_rfl) (by kernel_rfl) (fun _ _ _ h => h) (.inl ⟨by kernel_rfl, fun U hU => by go_simp⟩) hS0 ?_
        simp only [Act.put, List.setIfInBounds_toArray, List.set_cons_zero, List.set_cons_succ]
        refine wpAnyH_all (rs := [7]) (by kernel_rfl) (by simp) ?_
        intro i hi
        simp only [List.mem_cons, List.not_mem_nil, or_false] at hi
        subst hi
        unfold wpOp
        go_simp
        left
        refine (quiet_any _).mono ?_
        rintro e U1 ⟨rfl, b1⟩
        have hS1 : b < U1.heap.size ∧ U1.cell? ⟨b, o + k * 3 + 2, none⟩ = some (.int .i64 z1) := ⟨Nat.lt_of_lt_of_le hS0.1 b1.size, (b1.cell (p := ⟨b, o + k * 3 + 2, none⟩) hS0.1).trans hS0.2⟩
        have HX3 := Lib.hid (HX2.out.below b1)
        have B3 := Lib.hid (below3 B2.out b1)
        refine ⟨hS1, ?_⟩
        clear b1 hS0 HX2 B2
        refine wpAnyH_all (rs := [8]) (by kernel_rfl) (by simp) ?_
        intro i hi
        simp only [List.mem_cons, List.not_mem_nil, or_false] at hi
        subst hi
        unfold wpOp
        go_simp
        left
        refine (pwith_any _ n c l k true false (-1) _ HX3.out hkn hn (by decide)).mono ?_
        rw [HP.out]
        rintro e U2 ⟨A2, d2, rfl, p2, b2⟩
        have hS2 : b < U2.heap.size ∧ U2.cell? ⟨b, o + k * 3 + 2, none⟩ = some (.int .i64 z1) := ⟨Nat.lt_of_lt_of_le hS1.1 b2.size, (b2.cell (p := ⟨b, o + k * 3 + 2, none⟩) hS1.1).trans hS1.2⟩
        have O2 := Lib.hid (p2.base B3.out.size)
        have BF := Lib.hid (below3 B3.out b2)
        refine ⟨hS2, ?_⟩
        clear b2 p2
        refine take_at (i := 9) (d := 4) (v := .int .i64 z1) rfl rfl (by kernel_rfl) (by kernel_rfl) (by kernel_rfl) (fun _ _ _ h => h) (.inl ⟨by kernel_rfl, fun U hU => by go_simp⟩) hS2 ?_
        simp only [Act.put, List.setIfInBounds_toArray, List.set_cons_zero, List.set_cons_succ]
        refine take_at (i := 10) (d := 5) (v := .slice A2 p.length d2) rfl rfl (by kernel_rfl) (by kernel_rfl) (by kernel_rfl) (fun _ _ _ h => h) (.inl ⟨by kernel_rfl, fun U hU => by go_simp⟩) hS2 ?_
        simp only [Act.put, List.setIfInBounds_toArray, List.set_cons_zero, List.set_cons_succ]
        refine take_at (i := 11) (d := 6) (v := .int .i64 0) rfl rfl (by kernel_rfl) (by kernel_rfl) (by kernel_rfl) (fun _ _ _ h => h) (.inl ⟨by kernel_rfl, fun U hU => by go_simp⟩) hS2 ?_
        simp only [Act.put, List.setIfInBounds_toArray, List.set_cons_zero, List.set_cons_succ]
        refine wpAnyH_done (by kernel_rfl) ?_ _
        go_wp2_with fail
        exact bodyPost_ret (v := .tuple #[.int .i64 z1, .slice A2 p.length d2, .int .i64 0]) (by simp [results, Try.results16, go_sem]) rfl ⟨A2, d2, rfl, O2.out, BF.out⟩
      · have hz1 : z1 = -1 := by have h1 : -1 ≤ z1 := hok.2.2; omega
        obtain ⟨p, hp⟩ : ∃ p, l.set k rdyD = p := ⟨_, rfl⟩
        have HP := Lib.hid hp
        rw [show fireR l (k : Int) = (0, -1, p) by unfold fireR; rw [if_pos HH.out, Int.toNat_natCast, HZ.out, HW.out, hp, if_pos rfl, if_neg h0]]
        subst hz1
        have t0 : ((-1 : Int) != -1) = false := by decide
        clear hok hp h0
        have hE := eql_fd true r1 (-1) false false (-1)
        rw [show decide (((true, r1, -1) : Ds) = (false, false, -1)) = false from decide_eq_false (fun q => by cases q)] at hE
        have hG := guard_fd .eql
        go_enter Try.func16, Try.ntmps16
        go_wp2_with fail
        refine (phas_any A n c l _ _ HX.out).mono ?_
        rw [decide_eq_true HH.out]
        rintro e w1 ⟨rfl, b1⟩
        have B1 := Lib.hid b1
        have HX1 := Lib.hid (HX.out.below b1)
        clear b1
        obtain ⟨b, o, rfl, hb, c0, c1, c2⟩ := HX1.out.at_ hkn
        rw [HZ.out] at c0 c1 c2
        simp only at c0 c1 c2
        go_wp2_with fail
        refine calm_region (S := fun U => Below w1.heap.size w1 U) (by kernel_rfl) (Below.refl _ _).drew ?_
        refine calm_to (i := 0) (t := 13) (v := .slice (some ⟨b, o, none⟩) n c) rfl rfl (by kernel_rfl) (by kernel_rfl) (by kernel_rfl) (fun _ _ _ h => h) (calm_move (by kernel_rfl) (.tmp 0) (.inl rfl) rfl) ?_
        simp only [List.setIfInBounds_toArray, List.set_cons_zero, List.set_cons_succ]
        refine calm_to (i := 1) (t := 14) (v := .int .i64 (k : Int)) rfl rfl (by kernel_rfl) (by kernel_rfl) (by kernel_rfl) (fun _ _ _ h => h) (calm_move (by kernel_rfl) (.tmp 1) (.inl rfl) rfl) ?_
        simp only [List.setIfInBounds_toArray, List.set_cons_zero, List.set_cons_succ]
        refine calm_to (i := 2) (t := 15) (v := .pointer (some ⟨b, o + k * 3, none⟩)) rfl rfl (by kernel_rfl) (by kernel_rfl) (by kernel_rfl) (fun _ _ _ h => h) (calm_of (by kernel_rfl) (fun U hU => by go_simp)) ?_
        simp only [List.setIfInBounds_toArray, List.set_cons_zero, List.set_cons_succ]
        refine calm_to (i := 3) (t := 16) (v := .agg #[.bool true, .bool r1, .int .i64 (-1)]) rfl rfl (by kernel_rfl) (by kernel_rfl) (by kernel_rfl) (fun _ _ _ h => h) (calm_of (by kernel_rfl) (fun U hU => by have hc0 := (hU.cell (p := ⟨b, o + k * 3, none⟩) hb).trans c0; have hc1 := (hU.cell (p := ⟨b, o + k * 3 + 1, none⟩) hb).trans c1; have hc2 := (hU.cell (p := ⟨b, o + k * 3 + 2, none⟩) hb).trans c2; have hl := Nat.lt_of_lt_of_le hb hU.size; go_simp)) ?_
        simp only [List.setIfInBounds_toArray, List.set_cons_zero, List.set_cons_succ]
        refine calm_to (i := 4) (t := 17) (v := .agg #[.bool false, .bool false, .int .i64 (-1)]) rfl rfl (by kernel_rfl) (by kernel_rfl) (by kernel_rfl) (fun _ _ _ h => h) (calm_call0 (by kernel_rfl) 30 rfl (enters_of Try.func30 (by kernel_rfl) rfl) (fun U hU => (nothing_any U).mono fun _ _ q => ⟨q.1, below3 hU q.2⟩)) ?_
        simp only [List.setIfInBounds_toArray, List.set_cons_zero, List.set_cons_succ]
        refine calm_to (i := 5) (t := 18) (v := .bool false) rfl rfl (by kernel_rfl) (by kernel_rfl) (by kernel_rfl) (fun _ _ _ h => h) (calm_of (by kernel_rfl) (fun U hU => by go_simp)) ?_
        simp only [List.setIfInBounds_toArray, List.set_cons_zero, List.set_cons_succ]
        refine calm_to (i := 6) (t := 12) (v := .bool false) rfl rfl (by kernel_rfl) (by kernel_rfl) (by kernel_rfl) (fun _ _ _ h => h) (calm_move (by kernel_rfl) (.tmp 18) (.inr rfl) rfl) ?_
        simp only [List.setIfInBounds_toArray, List.set_cons_zero, List.set_cons_succ]
        refine calm_done (by kernel_rfl) (fun U hU => ?_) _
        replace c0 := (hU.cell (p := ⟨b, o + k * 3, none⟩) hb).trans c0
        replace c1 := (hU.cell (p := ⟨b, o + k * 3 + 1, none⟩) hb).trans c1
        replace c2 := (hU.cell (p := ⟨b, o + k * 3 + 2, none⟩) hb).trans c2
        replace hb := Nat.lt_of_lt_of_le hb hU.size
        replace B1 := Lib.hid (below3 B1.out hU)
        replace HX1 := Lib.hid (HX1.out.below hU)
        clear hU hE hG
        go_wp2_with fail
        refine (pwith_any _ n c l k true true (-1) _ HX1.out hkn hn (by decide)).mono ?_
        rw [HP.out]
        rintro e w2 ⟨A2, d2, rfl, p2, b2⟩
        have O2 := Lib.hid (p2.base B1.out.size)
        have B2 := Lib.hid (below3 B1.out b2)
        clear p2 b2
        go_wp2_with fail
        exact bodyPost_ret (v := .tuple #[.int .i64 (-1), .slice A2 p.length d2, .int .i64 0]) (by simp [results, Try.results16, go_sem]) rfl ⟨A2, d2, rfl, O2.out, B2.out⟩
  · rw [show fireR l i = (1, 0, []) by unfold fireR; rw [if_neg hh]]
    have HH := Lib.hid hh
    clear hh
    go_enter Try.func16, Try.ntmps16
    go_wp2_with fail
    refine (phas_any A n c l _ _ HX.out).mono ?_
    rw [decide_eq_false HH.out]
    rintro e w1 ⟨rfl, b1⟩
    have B1 := Lib.hid b1
    have HX1 := Lib.hid (HX.out.below b1)
    clear b1
    go_wp2_with fail
    exact bodyPost_ret (v := .tuple #[.int .i64 0, .slice none 0 0, .int .i64 1]) (by simp [results, Try.results16, go_sem]) rfl ⟨none, 0, rfl, OwnD.nil_ _ _ _, B1.out⟩

set_option maxHeartbeats 4000000 in
theorem parm_any (A : Option Addr) (n c : Nat) (l : List Ds) (i : Int) (id : Int) (w : World) (hx : Dss w A n c l) (hn : n ≤ 1000) (fid : Fit id) :
    Calls Try.prog 14 #[.slice A n c, .int .i64 i, .int .i64 id] w (NowD (armR l i id) w) := by
  have HX := Lib.hid hx
  have LX := Lib.hid hx.1
  have hnc := hx.2.1
  have FID := Lib.hid fid
  clear hx fid
  by_cases hh : hasD l i
  · have HH := Lib.hid hh
    by_cases hid : 0 ≤ id
    · obtain ⟨k, rfl, hkl⟩ := has_nat hh
      have hkn : k < n := by rw [← LX.out]; exact hkl
      clear hh
      obtain ⟨⟨o1, r1, z1⟩, hz⟩ : ∃ x, dth l k = x := ⟨_, rfl⟩
      have HZ := Lib.hid hz
      have HW := Lib.hid (who_def l k hz)
      have hok : okD (o1, r1, z1) := by rw [← hz]; exact (HH.out.1.2 k hkl).1
      clear hz
      have HID := Lib.hid hid
      have ti : decide (id < 0) = false := decide_eq_false (by omega)
      clear hid
      cases o1 with
      | false =>
        obtain ⟨hr0, hz0⟩ := hok.1 rfl
        simp only at hr0 hz0
        subst hr0 hz0
        clear hok
        rw [show armR l (k : Int) id = (5, false, []) by unfold armR; rw [if_pos ⟨HH.out, HID.out⟩, Int.toNat_natCast, HZ.out]; rfl]
        have hE := eql_fd false false (-1) false false (-1)
        rw [show decide (((false, false, -1) : Ds) = (false, false, -1)) = true from rfl] at hE
        have hG := guard_fd .eql
        go_enter Try.func14, Try.ntmps14
        go_wp2_with fail
        refine (phas_any A n c l _ _ HX.out).mono ?_
        rw [decide_eq_true HH.out]
        rintro e w1 ⟨rfl, b1⟩
        have B1 := Lib.hid b1
        have HX1 := Lib.hid (HX.out.below b1)
        clear b1
        obtain ⟨b, o, rfl, hb, c0, c1, c2⟩ := HX1.out.at_ hkn
        rw [HZ.out] at c0 c1 c2
        simp only at c0 c1 c2
        go_wp2_with fail
        refine calm_region (S := fun U => Below w1.heap.size w1 U) (by kernel_rfl) (Below.refl _ _).drew ?_
        refine calm_to (i := 0) (t := 19) (v := .slice (some ⟨b, o, none⟩) n c) rfl rfl (by kernel_rfl) (by kernel_rfl) (by kernel_rfl) (fun _ _ _ h => h) (calm_move (by kernel_rfl) (.tmp 0) (.inl rfl) rfl) ?_
        simp only [List.setIfInBounds_toArray, List.set_cons_zero, List.set_cons_succ]
        refine calm_to (i := 1) (t := 20) (v := .int .i64 (k : Int)) rfl rfl (by kernel_rfl) (by kernel_rfl) (by kernel_rfl) (fun _ _ _ h => h) (calm_move (by kernel_rfl) (.tmp 1) (.inl rfl) rfl) ?_
        simp only [List.setIfInBounds_toArray, List.set_cons_zero, List.set_cons_succ]
        refine calm_to (i := 2) (t := 21) (v := .pointer (some ⟨b, o + k * 3, none⟩)) rfl rfl (by kernel_rfl) (by kernel_rfl) (by kernel_rfl) (fun _ _ _ h => h) (calm_of (by kernel_rfl) (fun U hU => by go_simp)) ?_
        simp only [List.setIfInBounds_toArray, List.set_cons_zero, List.set_cons_succ]
        refine calm_to (i := 3) (t := 22) (v := .agg #[.bool false, .bool false, .int .i64 (-1)]) rfl rfl (by kernel_rfl) (by kernel_rfl) (by kernel_rfl) (fun _ _ _ h => h) (calm_of (by kernel_rfl) (fun U hU => by have hc0 := (hU.cell (p := ⟨b, o + k * 3, none⟩) hb).trans c0; have hc1 := (hU.cell (p := ⟨b, o + k * 3 + 1, none⟩) hb).trans c1; have hc2 := (hU.cell (p := ⟨b, o + k * 3 + 2, none⟩) hb).trans c2; have hl := Nat.lt_of_lt_of_le hb hU.size; go_simp)) ?_
        simp only [List.setIfInBounds_toArray, List.set_cons_zero, List.set_cons_succ]
        refine calm_to (i := 4) (t := 23) (v := .agg #[.bool false, .bool false, .int .i64 (-1)]) rfl rfl (by kernel_rfl) (by kernel_rfl) (by kernel_rfl) (fun _ _ _ h => h) (calm_call0 (by kernel_rfl) 30 rfl (enters_of Try.func30 (by kernel_rfl) rfl) (fun U hU => (nothing_any U).mono fun _ _ q => ⟨q.1, below3 hU q.2⟩)) ?_
        simp only [List.setIfInBounds_toArray, List.set_cons_zero, List.set_cons_succ]
        refine calm_to (i := 5) (t := 24) (v := .bool true) rfl rfl (by kernel_rfl) (by kernel_rfl) (by kernel_rfl) (fun _ _ _ h => h) (calm_of (by kernel_rfl) (fun U hU => by go_simp)) ?_
        simp only [List.setIfInBounds_toArray, List.set_cons_zero, List.set_cons_succ]
        refine calm_to (i := 6) (t := 18) (v := .bool true) rfl rfl (by kernel_rfl) (by kernel_rfl) (by kernel_rfl) (fun _ _ _ h => h) (calm_move (by kernel_rfl) (.tmp 24) (.inr rfl) rfl) ?_
        simp only [List.setIfInBounds_toArray, List.set_cons_zero, List.set_cons_succ]
        refine calm_done (by kernel_rfl) (fun U hU => ?_) _
        replace c0 := (hU.cell (p := ⟨b, o + k * 3, none⟩) hb).trans c0
        replace c1 := (hU.cell (p := ⟨b, o + k * 3 + 1, none⟩) hb).trans c1
        replace c2 := (hU.cell (p := ⟨b, o + k * 3 + 2, none⟩) hb).trans c2
        replace hb := Nat.lt_of_lt_of_le hb hU.size
        replace B1 := Lib.hid (below3 B1.out hU)
        replace HX1 := Lib.hid (HX1.out.below hU)
        clear hU hE hG
        go_wp2_with fail
        exact bodyPost_ret (v := .tuple #[.bool false, .slice none 0 0, .int .i64 5]) (by simp [results, Try.results14, go_sem]) rfl ⟨none, 0, rfl, OwnD.nil_ _ _ _, B1.out⟩
      | true =>
        have hlo : -1 ≤ z1 := hok.2.2
        have hE0 := trivial
        by_cases hwt : waitsD l id
        · rw [show armR l (k : Int) id = (6, false, []) by unfold armR; rw [if_pos ⟨HH.out, HID.out⟩, Int.toNat_natCast, HZ.out, if_pos rfl, if_pos hwt]]
          have HWT := Lib.hid hwt
          clear hok hwt
          have hE := eql_fd true r1 z1 false false (-1)
          rw [show decide (((true, r1, z1) : Ds) = (false, false, -1)) = false from decide_eq_false (fun q => by cases q)] at hE
          have hG := guard_fd .eql
          go_enter Try.func14, Try.ntmps14
          go_wp2_with fail
          refine (phas_any A n c l _ _ HX.out).mono ?_
          rw [decide_eq_true HH.out]
          rintro e w1 ⟨rfl, b1⟩
          have B1 := Lib.hid b1
          have HX1 := Lib.hid (HX.out.below b1)
          clear b1
          obtain ⟨b, o, rfl, hb, c0, c1, c2⟩ := HX1.out.at_ hkn
          rw [HZ.out] at c0 c1 c2
          simp only at c0 c1 c2
          go_wp2_with fail
          refine calm_region (S := fun U => Below w1.heap.size w1 U) (by kernel_rfl) (Below.refl _ _).drew ?_
          refine calm_to (i := 0) (t := 19) (v := .slice (some ⟨b, o, none⟩) n c) rfl rfl (by kernel_rfl) (by kernel_rfl) (by kernel_rfl) (fun _ _ _ h => h) (calm_move (by kernel_rfl) (.tmp 0) (.inl rfl) rfl) ?_
          simp only [List.setIfInBounds_toArray, List.set_cons_zero, List.set_cons_succ]
          refine calm_to (i := 1) (t := 20) (v := .int .i64 (k : Int)) rfl rfl (by kernel_rfl) (by kernel_rfl) (by kernel_rfl) (fun _ _ _ h => h) (calm_move (by kernel_rfl) (.tmp 1) (.inl rfl) rfl) ?_
          simp only [List.setIfInBounds_toArray, List.set_cons_zero, List.set_cons_succ]
          refine calm_to (i := 2) (t := 21) (v := .pointer (some ⟨b, o + k * 3, none⟩)) rfl rfl (by kernel_rfl) (by kernel_rfl) (by kernel_rfl) (fun _ _ _ h => h) (calm_of (by kernel_rfl) (fun U hU => by go_simp)) ?_
          simp only [List.setIfInBounds_toArray, List.set_cons_zero, List.set_cons_succ]
          refine calm_to (i := 3) (t := 22) (v := .agg #[.bool true, .bool r1, .int .i64 z1]) rfl rfl (by kernel_rfl) (by kernel_rfl) (by kernel_rfl) (fun _ _ _ h => h) (calm_of (by kernel_rfl) (fun U hU => by have hc0 := (hU.cell (p := ⟨b, o + k * 3, none⟩) hb).trans c0; have hc1 := (hU.cell (p := ⟨b, o + k * 3 + 1, none⟩) hb).trans c1; have hc2 := (hU.cell (p := ⟨b, o + k * 3 + 2, none⟩) hb).trans c2; have hl := Nat.lt_of_lt_of_le hb hU.size; go_simp)) ?_
          simp only [List.setIfInBounds_toArray, List.set_cons_zero, List.set_cons_succ]
          refine calm_to (i := 4) (t := 23) (v := .agg #[.bool false, .bool false, .int .i64 (-1)]) rfl rfl (by kernel_rfl) (by kernel_rfl) (by kernel_rfl) (fun _ _ _ h => h) (calm_call0 (by kernel_rfl) 30 rfl (enters_of Try.func30 (by kernel_rfl) rfl) (fun U hU => (nothing_any U).mono fun _ _ q => ⟨q.1, below3 hU q.2⟩)) ?_
          simp only [List.setIfInBounds_toArray, List.set_cons_zero, List.set_cons_succ]
          refine calm_to (i := 5) (t := 24) (v := .bool false) rfl rfl (by kernel_rfl) (by kernel_rfl) (by kernel_rfl) (fun _ _ _ h => h) (calm_of (by kernel_rfl) (fun U hU => by go_simp)) ?_
          simp only [List.setIfInBounds_toArray, List.set_cons_zero, List.set_cons_succ]
          refine calm_to (i := 6) (t := 18) (v := .bool false) rfl rfl (by kernel_rfl) (by kernel_rfl) (by kernel_rfl) (fun _ _ _ h => h) (calm_move (by kernel_rfl) (.tmp 24) (.inr rfl) rfl) ?_
          simp only [List.setIfInBounds_toArray, List.set_cons_zero, List.set_cons_succ]
          refine calm_done (by kernel_rfl) (fun U hU => ?_) _
          replace c0 := (hU.cell (p := ⟨b, o + k * 3, none⟩) hb).trans c0
          replace c1 := (hU.cell (p := ⟨b, o + k * 3 + 1, none⟩) hb).trans c1
          replace c2 := (hU.cell (p := ⟨b, o + k * 3 + 2, none⟩) hb).trans c2
          replace hb := Nat.lt_of_lt_of_le hb hU.size
          replace B1 := Lib.hid (below3 B1.out hU)
          replace HX1 := Lib.hid (HX1.out.below hU)
          clear hU hE hG
          go_wp2_with fail
          refine (pwaits_any _ n c l id _ HX1.out).mono ?_
          rintro e w2 (⟨j, rfl, hj, hw, hf, b2⟩ | ⟨rfl, hw, b2⟩)
          · have B2 := Lib.hid (below3 B1.out b2)
            clear hj hw hf b2
            go_wp2_with fail
            exact bodyPost_ret (v := .tuple #[.bool false, .slice none 0 0, .int .i64 6]) (by simp [results, Try.results14, go_sem]) rfl ⟨none, 0, rfl, OwnD.nil_ _ _ _, B2.out⟩
          · exact absurd ⟨HID.out, HWT.out⟩ hw
        · by_cases h0 : 0 ≤ z1
          · rw [show armR l (k : Int) id = (7, false, []) by unfold armR; rw [if_pos ⟨HH.out, HID.out⟩, Int.toNat_natCast, HZ.out, HW.out, if_pos rfl, if_neg hwt, if_pos h0]]
            have t0 : (z1 != -1) = true := by simp; omega
            have HWT := Lib.hid hwt
            clear hok hwt h0
            have hE := eql_fd true r1 z1 false false (-1)
            rw [show decide (((true, r1, z1) : Ds) = (false, false, -1)) = false from decide_eq_false (fun q => by cases q)] at hE
            have hG := guard_fd .eql
            go_enter Try.func14, Try.ntmps14
            go_wp2_with fail
            refine (phas_any A n c l _ _ HX.out).mono ?_
            rw [decide_eq_true HH.out]
            rintro e w1 ⟨rfl, b1⟩
            have B1 := Lib.hid b1
            have HX1 := Lib.hid (HX.out.below b1)
            clear b1
            obtain ⟨b, o, rfl, hb, c0, c1, c2⟩ := HX1.out.at_ hkn
            rw [HZ.out] at c0 c1 c2
            simp only at c0 c1 c2
            go_wp2_with fail
            refine calm_region (S := fun U => Below w1.heap.size w1 U) (by kernel_rfl) (Below.refl _ _).drew ?_
            refine calm_to (i := 0) (t := 19) (v := .slice (some ⟨b, o, none⟩) n c) rfl rfl (by kernel_rfl) (by kernel_rfl) (by kernel_rfl) (fun _ _ _ h => h) (calm_move (by kernel_rfl) (.tmp 0) (.inl rfl) rfl) ?_
            simp only [List.setIfInBounds_toArray, List.set_cons_zero, List.set_cons_succ]
            refine calm_to (i := 1) (t := 20) (v := .int .i64 (k : Int)) rfl rfl (by kernel_rfl) (by kernel_rfl) (by kernel_rfl) (fun _ _ _ h => h) (calm_move (by kernel_rfl) (.tmp 1) (.inl rfl) rfl) ?_
            simp only [List.setIfInBounds_toArray, List.set_cons_zero, List.set_cons_succ]
            refine calm_to (i := 2) (t := 21) (v := .pointer (some ⟨b, o + k * 3, none⟩)) rfl rfl (by kernel_rfl) (by kernel_rfl) (by kernel_rfl) (fun _ _ _ h => h) (calm_of (by kernel_rfl) (fun U hU => by go_simp)) ?_
            simp only [List.setIfInBounds_toArray, List.set_cons_zero, List.set_cons_succ]
            refine calm_to (i := 3) (t := 22) (v := .agg #[.bool true, .bool r1, .int .i64 z1]) rfl rfl (by kernel_rfl) (by kernel_rfl) (by kernel_rfl) (fun _ _ _ h => h) (calm_of (by kernel_rfl) (fun U hU => by have hc0 := (hU.cell (p := ⟨b, o + k * 3, none⟩) hb).trans c0; have hc1 := (hU.cell (p := ⟨b, o + k * 3 + 1, none⟩) hb).trans c1; have hc2 := (hU.cell (p := ⟨b, o + k * 3 + 2, none⟩) hb).trans c2; have hl := Nat.lt_of_lt_of_le hb hU.size; go_simp)) ?_
            simp only [List.setIfInBounds_toArray, List.set_cons_zero, List.set_cons_succ]
            refine calm_to (i := 4) (t := 23) (v := .agg #[.bool false, .bool false, .int .i64 (-1)]) rfl rfl (by kernel_rfl) (by kernel_rfl) (by kernel_rfl) (fun _ _ _ h => h) (calm_call0 (by kernel_rfl) 30 rfl (enters_of Try.func30 (by kernel_rfl) rfl) (fun U hU => (nothing_any U).mono fun _ _ q => ⟨q.1, below3 hU q.2⟩)) ?_
            simp only [List.setIfInBounds_toArray, List.set_cons_zero, List.set_cons_succ]
            refine calm_to (i := 5) (t := 24) (v := .bool false) rfl rfl (by kernel_rfl) (by kernel_rfl) (by kernel_rfl) (fun _ _ _ h => h) (calm_of (by kernel_rfl) (fun U hU => by go_simp)) ?_
            simp only [List.setIfInBounds_toArray, List.set_cons_zero, List.set_cons_succ]
            refine calm_to (i := 6) (t := 18) (v := .bool false) rfl rfl (by kernel_rfl) (by kernel_rfl) (by kernel_rfl) (fun _ _ _ h => h) (calm_move (by kernel_rfl) (.tmp 24) (.inr rfl) rfl) ?_
            simp only [List.setIfInBounds_toArray, List.set_cons_zero, List.set_cons_succ]
            refine calm_done (by kernel_rfl) (fun U hU => ?_) _
            replace c0 := (hU.cell (p := ⟨b, o + k * 3, none⟩) hb).trans c0
            replace c1 := (hU.cell (p := ⟨b, o + k * 3 + 1, none⟩) hb).trans c1
            replace c2 := (hU.cell (p := ⟨b, o + k * 3 + 2, none⟩) hb).trans c2
            replace hb := Nat.lt_of_lt_of_le hb hU.size
            replace B1 := Lib.hid (below3 B1.out hU)
            replace HX1 := Lib.hid (HX1.out.below hU)
            clear hU hE hG
            go_wp2_with fail
            refine (pwaits_any _ n c l id _ HX1.out).mono ?_
            rintro e w2 (⟨j, rfl, hj, hw, hf, b2⟩ | ⟨rfl, hw, b2⟩)
            · exact absurd hw.2 HWT.out
            · replace c0 := (b2.cell (p := ⟨b, o + k * 3, none⟩) hb).trans c0
              replace c1 := (b2.cell (p := ⟨b, o + k * 3 + 1, none⟩) hb).trans c1
              replace c2 := (b2.cell (p := ⟨b, o + k * 3 + 2, none⟩) hb).trans c2
              replace hb := Nat.lt_of_lt_of_le hb b2.size
              replace B1 := Lib.hid (below3 B1.out b2)
              replace HX1 := Lib.hid (HX1.out.below b2)
              clear hw b2
              go_wp2_with fail
              exact bodyPost_ret (v := .tuple #[.bool false, .slice none 0 0, .int .i64 7]) (by simp [results, Try.results14, go_sem]) rfl ⟨none, 0, rfl, OwnD.nil_ _ _ _, B1.out⟩
          · have hz1 : z1 = -1 := by omega
            have t0 : (z1 != -1) = false := by simpa using hz1
            clear hlo
            cases r1 with
            | true =>
              obtain ⟨p, hp⟩ : ∃ p, l.set k quiD = p := ⟨_, rfl⟩
              have HP := Lib.hid hp
              rw [show armR l (k : Int) id = (0, true, p) by unfold armR; rw [if_pos ⟨HH.out, HID.out⟩, Int.toNat_natCast, HZ.out, HW.out, hp, if_pos rfl, if_neg hwt, if_neg h0]; rfl]
              have HWT := Lib.hid hwt
              clear hok hwt h0 hp hz1
              have hE := eql_fd true true z1 false false (-1)
              rw [show decide (((true, true, z1) : Ds) = (false, false, -1)) = false from decide_eq_false (fun q => by cases q)] at hE
              have hG := guard_fd .eql
              go_enter Try.func14, Try.ntmps14
              go_wp2_with fail
              refine (phas_any A n c l _ _ HX.out).mono ?_
              rw [decide_eq_true HH.out]
              rintro e w1 ⟨rfl, b1⟩
              have B1 := Lib.hid b1
              have HX1 := Lib.hid (HX.out.below b1)
              clear b1
              obtain ⟨b, o, rfl, hb, c0, c1, c2⟩ := HX1.out.at_ hkn
              rw [HZ.out] at c0 c1 c2
              simp only at c0 c1 c2
              go_wp2_with fail
              refine calm_region (S := fun U => Below w1.heap.size w1 U) (by kernel_rfl) (Below.refl _ _).drew ?_
              refine calm_to (i := 0) (t := 19) (v := .slice (some ⟨b, o, none⟩) n c) rfl rfl (by kernel_rfl) (by kernel_rfl) (by kernel_rfl) (fun _ _ _ h => h) (calm_move (by kernel_rfl) (.tmp 0) (.inl rfl) rfl) ?_
              simp only [List.setIfInBounds_toArray, List.set_cons_zero, List.set_cons_succ]
              refine calm_to (i := 1) (t := 20) (v := .int .i64 (k : Int)) rfl rfl (by kernel_rfl) (by kernel_rfl) (by kernel_rfl) (fun _ _ _ h => h) (calm_move (by kernel_rfl) (.tmp 1) (.inl rfl) rfl) ?_
              simp only [List.setIfInBounds_toArray, List.set_cons_zero, List.set_cons_succ]
              refine calm_to (i := 2) (t := 21) (v := .pointer (some ⟨b, o + k * 3, none⟩)) rfl rfl (by kernel_rfl) (by kernel_rfl) (by kernel_rfl) (fun _ _ _ h => h) (calm_of (by kernel_rfl) (fun U hU => by go_simp)) ?_
              simp only [List.setIfInBounds_toArray, List.set_cons_zero, List.set_cons_succ]
              refine calm_to (i := 3) (t := 22) (v := .agg #[.bool true, .bool true, .int .i64 z1]) rfl rfl (by kernel_rfl) (by kernel_rfl) (by kernel_rfl) (fun _ _ _ h => h) (calm_of (by kernel_rfl) (fun U hU => by have hc0 := (hU.cell (p := ⟨b, o + k * 3, none⟩) hb).trans c0; have hc1 := (hU.cell (p := ⟨b, o + k * 3 + 1, none⟩) hb).trans c1; have hc2 := (hU.cell (p := ⟨b, o + k * 3 + 2, none⟩) hb).trans c2; have hl := Nat.lt_of_lt_of_le hb hU.size; go_simp)) ?_
              simp only [List.setIfInBounds_toArray, List.set_cons_zero, List.set_cons_succ]
              refine calm_to (i := 4) (t := 23) (v := .agg #[.bool false, .bool false, .int .i64 (-1)]) rfl rfl (by kernel_rfl) (by kernel_rfl) (by kernel_rfl) (fun _ _ _ h => h) (calm_call0 (by kernel_rfl) 30 rfl (enters_of Try.func30 (by kernel_rfl) rfl) (fun U hU => (nothing_any U).mono fun _ _ q => ⟨q.1, below3 hU q.2⟩)) ?_
              simp only [List.setIfInBounds_toArray, List.set_cons_zero, List.set_cons_succ]
              refine calm_to (i := 5) (t := 24) (v := .bool false) rfl rfl (by kernel_rfl) (by kernel_rfl) (by kernel_rfl) (fun _ _ _ h => h) (calm_of (by kernel_rfl) (fun U hU => by go_simp)) ?_
              simp only [List.setIfInBounds_toArray, List.set_cons_zero, List.set_cons_succ]
              refine calm_to (i := 6) (t := 18) (v := .bool false) rfl rfl (by kernel_rfl) (by kernel_rfl) (by kernel_rfl) (fun _ _ _ h => h) (calm_move (by kernel_rfl) (.tmp 24) (.inr rfl) rfl) ?_
              simp only [List.setIfInBounds_toArray, List.set_cons_zero, List.set_cons_succ]
              refine calm_done (by kernel_rfl) (fun U hU => ?_) _
              replace c0 := (hU.cell (p := ⟨b, o + k * 3, none⟩) hb).trans c0
              replace c1 := (hU.cell (p := ⟨b, o + k * 3 + 1, none⟩) hb).trans c1
              replace c2 := (hU.cell (p := ⟨b, o + k * 3 + 2, none⟩) hb).trans c2
              replace hb := Nat.lt_of_lt_of_le hb hU.size
              replace B1 := Lib.hid (below3 B1.out hU)
              replace HX1 := Lib.hid (HX1.out.below hU)
              clear hU hE hG
              go_wp2_with fail
              refine (pwaits_any _ n c l id _ HX1.out).mono ?_
              rintro e w2 (⟨j, rfl, hj, hw, hf, b2⟩ | ⟨rfl, hw, b2⟩)
              · exact absurd hw.2 HWT.out
              · replace c0 := (b2.cell (p := ⟨b, o + k * 3, none⟩) hb).trans c0
                replace c1 := (b2.cell (p := ⟨b, o + k * 3 + 1, none⟩) hb).trans c1
                replace c2 := (b2.cell (p := ⟨b, o + k * 3 + 2, none⟩) hb).trans c2
                replace hb := Nat.lt_of_lt_of_le hb b2.size
                replace B1 := Lib.hid (below3 B1.out b2)
                replace HX1 := Lib.hid (HX1.out.below b2)
                clear hw b2
                go_wp2_with fail
                refine (quiet_any _).mono ?_
                rintro e w4 ⟨rfl, b4⟩
                replace B1 := Lib.hid (below3 B1.out b4)
                replace HX1 := Lib.hid (HX1.out.below b4)
                clear b4 hb c0 c1 c2
                go_wp2_with fail
                refine (pwith_any _ n c l k true false (-1) _ HX1.out hkn hn (by decide)).mono ?_
                rw [HP.out]
                rintro e w3 ⟨A2, d2, rfl, p2, b3⟩
                have O2 := Lib.hid (p2.base B1.out.size)
                have B2 := Lib.hid (below3 B1.out b3)
                clear p2 b3
                go_wp2_with fail
                exact bodyPost_ret (v := .tuple #[.bool true, .slice A2 p.length d2, .int .i64 0]) (by simp [results, Try.results14, go_sem]) rfl ⟨A2, d2, rfl, O2.out, B2.out⟩
            | false =>
              obtain ⟨p, hp⟩ : ∃ p, l.set k (true, false, id) = p := ⟨_, rfl⟩
              have HP := Lib.hid hp
              rw [show armR l (k : Int) id = (0, false, p) by unfold armR; rw [if_pos ⟨HH.out, HID.out⟩, Int.toNat_natCast, HZ.out, HW.out, hp, if_pos rfl, if_neg hwt, if_neg h0]; rfl]
              have HWT := Lib.hid hwt
              clear hok hwt h0 hp hz1
              have hE := eql_fd true false z1 false false (-1)
              rw [show decide (((true, false, z1) : Ds) = (false, false, -1)) = false from decide_eq_false (fun q => by cases q)] at hE
              have hG := guard_fd .eql
              go_enter Try.func14, Try.ntmps14
              go_wp2_with fail
              refine (phas_any A n c l _ _ HX.out).mono ?_
              rw [decide_eq_true HH.out]
              rintro e w1 ⟨rfl, b1⟩
              have B1 := Lib.hid b1
              have HX1 := Lib.hid (HX.out.below b1)
              clear b1
              obtain ⟨b, o, rfl, hb, c0, c1, c2⟩ := HX1.out.at_ hkn
              rw [HZ.out] at c0 c1 c2
              simp only at c0 c1 c2
              go_wp2_with fail
              refine calm_region (S := fun U => Below w1.heap.size w1 U) (by kernel_rfl) (Below.refl _ _).drew ?_
              refine calm_to (i := 0) (t := 19) (v := .slice (some ⟨b, o, none⟩) n c) rfl rfl (by kernel_rfl) (by kernel_rfl) (by kernel_rfl) (fun _ _ _ h => h) (calm_move (by kernel_rfl) (.tmp 0) (.inl rfl) rfl) ?_
              simp only [List.setIfInBounds_toArray, List.set_cons_zero, List.set_cons_succ]
              refine calm_to (i := 1) (t := 20) (v := .int .i64 (k : Int)) rfl rfl (by kernel_rfl) (by kernel_rfl) (by kernel_rfl) (fun _ _ _ h => h) (calm_move (by kernel_rfl) (.tmp 1) (.inl rfl) rfl) ?_
              simp only [List.setIfInBounds_toArray, List.set_cons_zero, List.set_cons_succ]
              refine calm_to (i := 2) (t := 21) (v := .pointer (some ⟨b, o + k * 3, none⟩)) rfl rfl (by kernel_rfl) (by kernel_rfl) (by kernel_rfl) (fun _ _ _ h => h) (calm_of (by kernel_rfl) (fun U hU => by go_simp)) ?_
              simp only [List.setIfInBounds_toArray, List.set_cons_zero, List.set_cons_succ]
              refine calm_to (i := 3) (t := 22) (v := .agg #[.bool true, .bool false, .int .i64 z1]) rfl rfl (by kernel_rfl) (by kernel_rfl) (by kernel_rfl) (fun _ _ _ h => h) (calm_of (by kernel_rfl) (fun U hU => by have hc0 := (hU.cell (p := ⟨b, o + k * 3, none⟩) hb).trans c0; have hc1 := (hU.cell (p := ⟨b, o + k * 3 + 1, none⟩) hb).trans c1; have hc2 := (hU.cell (p := ⟨b, o + k * 3 + 2, none⟩) hb).trans c2; have hl := Nat.lt_of_lt_of_le hb hU.size; go_simp)) ?_
              simp only [List.setIfInBounds_toArray, List.set_cons_zero, List.set_cons_succ]
              refine calm_to (i := 4) (t := 23) (v := .agg #[.bool false, .bool false, .int .i64 (-1)]) rfl rfl (by kernel_rfl) (by kernel_rfl) (by kernel_rfl) (fun _ _ _ h => h) (calm_call0 (by kernel_rfl) 30 rfl (enters_of Try.func30 (by kernel_rfl) rfl) (fun U hU => (nothing_any U).mono fun _ _ q => ⟨q.1, below3 hU q.2⟩)) ?_
              simp only [List.setIfInBounds_toArray, List.set_cons_zero, List.set_cons_succ]
              refine calm_to (i := 5) (t := 24) (v := .bool false) rfl rfl (by kernel_rfl) (by kernel_rfl) (by kernel_rfl) (fun _ _ _ h => h) (calm_of (by kernel_rfl) (fun U hU => by go_simp)) ?_
              simp only [List.setIfInBounds_toArray, List.set_cons_zero, List.set_cons_succ]
              refine calm_to (i := 6) (t := 18) (v := .bool false) rfl rfl (by kernel_rfl) (by kernel_rfl) (by kernel_rfl) (fun _ _ _ h => h) (calm_move (by kernel_rfl) (.tmp 24) (.inr rfl) rfl) ?_
              simp only [List.setIfInBounds_toArray, List.set_cons_zero, List.set_cons_succ]
              refine calm_done (by kernel_rfl) (fun U hU => ?_) _
              replace c0 := (hU.cell (p := ⟨b, o + k * 3, none⟩) hb).trans c0
              replace c1 := (hU.cell (p := ⟨b, o + k * 3 + 1, none⟩) hb).trans c1
              replace c2 := (hU.cell (p := ⟨b, o + k * 3 + 2, none⟩) hb).trans c2
              replace hb := Nat.lt_of_lt_of_le hb hU.size
              replace B1 := Lib.hid (below3 B1.out hU)
              replace HX1 := Lib.hid (HX1.out.below hU)
              clear hU hE hG
              go_wp2_with fail
              refine (pwaits_any _ n c l id _ HX1.out).mono ?_
              rintro e w2 (⟨j, rfl, hj, hw, hf, b2⟩ | ⟨rfl, hw, b2⟩)
              · exact absurd hw.2 HWT.out
              · replace c0 := (b2.cell (p := ⟨b, o + k * 3, none⟩) hb).trans c0
                replace c1 := (b2.cell (p := ⟨b, o + k * 3 + 1, none⟩) hb).trans c1
                replace c2 := (b2.cell (p := ⟨b, o + k * 3 + 2, none⟩) hb).trans c2
                replace hb := Nat.lt_of_lt_of_le hb b2.size
                replace B1 := Lib.hid (below3 B1.out b2)
                replace HX1 := Lib.hid (HX1.out.below b2)
                clear hw b2
                go_wp2_with fail
                refine (pwith_any _ n c l k true false id _ HX1.out hkn hn FID.out).mono ?_
                rw [HP.out]
                rintro e w3 ⟨A2, d2, rfl, p2, b3⟩
                have O2 := Lib.hid (p2.base B1.out.size)
                have B2 := Lib.hid (below3 B1.out b3)
                clear p2 b3
                go_wp2_with fail
                exact bodyPost_ret (v := .tuple #[.bool false, .slice A2 p.length d2, .int .i64 0]) (by simp [results, Try.results14, go_sem]) rfl ⟨A2, d2, rfl, O2.out, B2.out⟩
    · rw [show armR l i id = (1, false, []) by unfold armR; rw [if_neg (fun q => hid q.2)]]
      have ti : decide (id < 0) = true := decide_eq_true (by omega)
      clear hh hid
      go_enter Try.func14, Try.ntmps14
      go_wp2_with fail
      refine (phas_any A n c l _ _ HX.out).mono ?_
      rw [decide_eq_true HH.out]
      rintro e w1 ⟨rfl, b1⟩
      have B1 := Lib.hid b1
      have HX1 := Lib.hid (HX.out.below b1)
      clear b1
      go_wp2_with fail
      exact bodyPost_ret (v := .tuple #[.bool false, .slice none 0 0, .int .i64 1]) (by simp [results, Try.results14, go_sem]) rfl ⟨none, 0, rfl, OwnD.nil_ _ _ _, B1.out⟩
  · have HH := Lib.hid hh
    clear hh
    rw [show armR l i id = (1, false, []) by unfold armR; rw [if_neg (fun q => HH.out q.1)]]
    go_enter Try.func14, Try.ntmps14
    go_wp2_with fail
    refine (phas_any A n c l _ _ HX.out).mono ?_
    rw [decide_eq_false HH.out]
    rintro e w1 ⟨rfl, b1⟩
    have B1 := Lib.hid b1
    have HX1 := Lib.hid (HX.out.below b1)
    clear b1
    go_wp2_with fail
    exact bodyPost_ret (v := .tuple #[.bool false, .slice none 0 0, .int .i64 1]) (by simp [results, Try.results14, go_sem]) rfl ⟨none, 0, rfl, OwnD.nil_ _ _ _, B1.out⟩

set_option maxHeartbeats 4000000 in
theorem pdrop_any (A : Option Addr) (n c : Nat) (l : List Ds) (id : Int) (w : World) (hx : Dss w A n c l) (hn : n ≤ 1000) :
    Calls Try.prog 18 #[.slice A n c, .int .i64 id] w (ListD (dropR l id) w) := by
  have HX := Lib.hid hx
  have LX := Lib.hid hx.1
  have hnc := hx.2.1
  clear hx
  by_cases hok : pollOk l
  · have HOK := Lib.hid hok
    by_cases hwt : 0 ≤ id ∧ waitsD l id
    · obtain ⟨p, hp⟩ : ∃ p, l.set (firstW l id) quiD = p := ⟨_, rfl⟩
      have HP := Lib.hid hp
      rw [show dropR l id = (0, p) by unfold dropR; rw [if_pos hok, if_pos hwt, hp]]
      have HWT := Lib.hid hwt
      clear hok hwt hp
      go_enter Try.func18, Try.ntmps18
      go_wp2_with fail
      refine (pcheck_any A n c l _ HX.out).mono ?_
      rw [if_pos HOK.out]
      rintro e w1 ⟨rfl, b1⟩
      have B1 := Lib.hid b1
      have HX1 := Lib.hid (HX.out.below b1)
      clear b1
      go_wp2_with fail
      refine (pwaits_any _ n c l id _ HX1.out).mono ?_
      rintro e w2 (⟨j, rfl, hj, hw, hf, b2⟩ | ⟨rfl, hw, b2⟩)
      · have B2 := Lib.hid (below3 B1.out b2)
        have HX2 := Lib.hid (HX1.out.below b2)
        rw [hf] at HP
        have hjn : j < n := by rw [← LX.out]; exact hj
        clear hj hw hf b2
        go_wp2_with fail
        refine (quiet_any _).mono ?_
        rintro e w4 ⟨rfl, b4⟩
        replace B2 := Lib.hid (below3 B2.out b4)
        replace HX2 := Lib.hid (HX2.out.below b4)
        clear b4
        go_wp2_with fail
        refine (pwith_any _ n c l j true false (-1) _ HX2.out hjn hn (by decide)).mono ?_
        rw [HP.out]
        rintro e w3 ⟨A2, d2, rfl, p2, b3⟩
        have O2 := Lib.hid (p2.base B2.out.size)
        have B3 := Lib.hid (below3 B2.out b3)
        clear p2 b3
        go_wp2_with fail
        exact bodyPost_ret (v := .tuple #[.slice A2 p.length d2, .int .i64 0]) (by simp [results, Try.results18, go_sem]) rfl ⟨A2, d2, rfl, O2.out, B3.out⟩
      · exact absurd HWT.out hw
    · rw [show dropR l id = (5, []) by unfold dropR; rw [if_pos hok, if_neg hwt]]
      have HWT := Lib.hid hwt
      clear hok hwt
      go_enter Try.func18, Try.ntmps18
      go_wp2_with fail
      refine (pcheck_any A n c l _ HX.out).mono ?_
      rw [if_pos HOK.out]
      rintro e w1 ⟨rfl, b1⟩
      have B1 := Lib.hid b1
      have HX1 := Lib.hid (HX.out.below b1)
      clear b1
      go_wp2_with fail
      refine (pwaits_any _ n c l id _ HX1.out).mono ?_
      rintro e w2 (⟨j, rfl, hj, hw, hf, b2⟩ | ⟨rfl, hw, b2⟩)
      · exact absurd hw HWT.out
      · have B2 := Lib.hid (below3 B1.out b2)
        have HX2 := Lib.hid (HX1.out.below b2)
        clear hw b2
        go_wp2_with fail
        exact bodyPost_ret (v := .tuple #[.slice none 0 0, .int .i64 5]) (by simp [results, Try.results18, go_sem]) rfl ⟨none, 0, rfl, OwnD.nil_ _ _ _, B2.out⟩
  · have HOK := Lib.hid hok
    rw [show dropR l id = (1, []) by unfold dropR; rw [if_neg hok]]
    clear hok
    go_enter Try.func18, Try.ntmps18
    go_wp2_with fail
    refine (pcheck_any A n c l _ HX.out).mono ?_
    rw [if_neg HOK.out]
    rintro e w1 ⟨rfl, b1⟩
    have B1 := Lib.hid b1
    have HX1 := Lib.hid (HX.out.below b1)
    clear b1
    go_wp2_with fail
    exact bodyPost_ret (v := .tuple #[.slice none 0 0, .int .i64 1]) (by simp [results, Try.results18, go_sem]) rfl ⟨none, 0, rfl, OwnD.nil_ _ _ _, B1.out⟩

end Go.Proofs.Ytndbaoiabmldgaa

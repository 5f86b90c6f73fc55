/-
  The document's layer 9: New, Waits, Open, Shut, Arm, Fire, Drop; what both sides are to answer.
-/
import Derived.Test.YtndbaoiabmldgaaDb
import Derived.Test.YtndbaoiabmldgaaHr
import Derived.Test.YtndbaoiabmldgaaCalmX
namespace Go.Proofs.Ytndbaoiabmldgaa
open Go.RowKit

/-- What is told: new descriptors; an error's number with them; who, or whether, too. -/
def NewD (p : List Ds) (w : World) (e : Ending) (w' : World) : Prop := ∃ A c, e = .returned (.slice A p.length c) ∧ OwnD 34 w' w.heap.size A c p ∧ Below w.heap.size w w'
def ListD (r : Int × List Ds) (w : World) (e : Ending) (w' : World) : Prop := ∃ A c, e = .returned (.tuple #[.slice A r.2.length c, .int .i64 r.1]) ∧ OwnD 34 w' w.heap.size A c r.2 ∧ Below w.heap.size w w'
def WhoD (r : Int × Int × List Ds) (w : World) (e : Ending) (w' : World) : Prop := ∃ A c, e = .returned (.tuple #[.int .i64 r.2.1, .slice A r.2.2.length c, .int .i64 r.1]) ∧ OwnD 34 w' w.heap.size A c r.2.2 ∧ Below w.heap.size w w'
def NowD (r : Int × Bool × List Ds) (w : World) (e : Ending) (w' : World) : Prop := ∃ A c, e = .returned (.tuple #[.bool r.2.1, .slice A r.2.2.length c, .int .i64 r.1]) ∧ OwnD 34 w' w.heap.size A c r.2.2 ∧ Below w.heap.size w w'
def ListI (r : Int × List Int) (w : World) (e : Ending) (w' : World) : Prop := ∃ A c, e = .returned (.tuple #[.slice A r.2.length c, .int .i64 r.1]) ∧ OwnI 2 w' w.heap.size A c r.2 ∧ Below w.heap.size w w' ∧ (r.2.length ≤ c ∧ c ≤ 9223372036854775807)

def hasD (l : List Ds) (i : Int) : Prop := pollOk l ∧ 0 ≤ i ∧ i < l.length
noncomputable instance (l : List Ds) (i : Int) : Decidable (hasD l i) := Classical.propDecidable _
def waitsD (l : List Ds) (id : Int) : Prop := ∃ j, j < l.length ∧ who l j = id
noncomputable instance (l : List Ds) (id : Int) : Decidable (waitsD l id) := Classical.propDecidable _
def firstW (l : List Ds) (id : Int) : Nat := l.findIdx (fun x => decide (x.2.2 = id))
noncomputable def newR (n : Int) : Int × List Ds := if 0 ≤ n ∧ n ≤ 16 then (0, List.replicate n.toNat nilD) else (1, [])
def waitL (l : List Ds) : List Int := (l.map (fun x => x.2.2)).filter (fun z => decide (0 ≤ z))
noncomputable def waitsR (l : List Ds) : Int × List Int := if pollOk l then (0, waitL l) else (1, [])
noncomputable def openR (l : List Ds) (i : Int) : Int × List Ds := if hasD l i then (if (dth l i.toNat).1 = true then (6, []) else (0, l.set i.toNat quiD)) else (1, [])
noncomputable def shutR (l : List Ds) (i : Int) : Int × Int × List Ds := if hasD l i then (if (dth l i.toNat).1 = true then (0, who l i.toNat, l.set i.toNat nilD) else (5, 0, [])) else (1, 0, [])
noncomputable def armR (l : List Ds) (i id : Int) : Int × Bool × List Ds :=
  if hasD l i ∧ 0 ≤ id then (if (dth l i.toNat).1 = true then (if waitsD l id then (6, false, []) else if 0 ≤ who l i.toNat then (7, false, []) else if (dth l i.toNat).2.1 = true then (0, true, l.set i.toNat quiD) else (0, false, l.set i.toNat (true, false, id))) else (5, false, [])) else (1, false, [])
noncomputable def fireR (l : List Ds) (i : Int) : Int × Int × List Ds :=
  if hasD l i then (if (dth l i.toNat).1 = true then (if 0 ≤ who l i.toNat then (0, who l i.toNat, l.set i.toNat quiD) else (0, -1, l.set i.toNat rdyD)) else (5, 0, [])) else (1, 0, [])
noncomputable def dropR (l : List Ds) (id : Int) : Int × List Ds := if pollOk l then (if 0 ≤ id ∧ waitsD l id then (0, l.set (firstW l id) quiD) else (5, [])) else (1, [])

theorem firstW_at {l : List Ds} {id : Int} {j : Nat} (hj : j < l.length) (h : who l j = id) (hn : ∀ i, i < j → who l i ≠ id) : firstW l id = j := by
  unfold firstW
  rw [List.findIdx_eq hj]
  refine ⟨by unfold who at h; rw [dth_get hj] at h; simpa using h, fun i hi => ?_⟩
  have := hn i hi
  unfold who at this
  rw [dth_get (by omega)] at this
  simpa using this
theorem has_nat {l : List Ds} {i : Int} (h : hasD l i) : ∃ k : Nat, i = (k : Int) ∧ k < l.length := ⟨i.toNat, by have := h.2.1; omega, by have := h.2.1; have := h.2.2; omega⟩

/-- A call of a function of no arguments, by its contract. -/
theorem calm_call0 {P : Program} {ops : Array Oper} {S : World → Prop} {o : Oper} {v : Value} {a : Act} (hw : Region.wanted o (yielded ops a.tmps) = true) (f : FuncId) (ho : o.op = .call { callee := .value (.func f), args := #[], argTypes := #[] })
    (he : ∀ args w, (callFunc f args).run P w = .ok (.enter f args) w) (hc : ∀ w, S w → Calls P f #[] w fun e w' => e = .returned v ∧ S w') : Calm P ops S o v a :=
  .inl ⟨hw, fun w hS => by
    have : (execOp a.eval o).run P w = .ok (.enter f #[]) w := by
      unfold execOp
      simp only [ho, resolve, List.map_toArray, List.map_nil]
      simp [Act.eval, Deferred.ofValue, invoke, he]
    rw [this]
    exact hc w hS⟩

theorem in9_any (A : Option Addr) (n c : Nat) (l : List Ds) (i : Int) (w : World) (hx : Dss w A n c l) :
    Calls Try.prog 33 #[.slice A n c, .int .i64 i] w (RetB (.bool (decide (hasD l i))) w) := by
  have LX := Lib.hid hx.1
  have hnc := hx.2.1
  have HC := Lib.hid (rcheck_any A n c l w hx)
  clear hx
  by_cases hok : pollOk l
  · by_cases h0 : 0 ≤ i
    · by_cases h1 : i < (n : Int)
      · rw [decide_eq_true (show hasD l i from ⟨hok, h0, by rw [LX.out]; exact h1⟩)]
        have HC := Lib.hid (if_pos hok ▸ HC.out)
        clear hok
        have t0 : decide (0 ≤ i) = true := decide_eq_true h0
        have t1 : decide (i < (n : Int)) = true := decide_eq_true h1
        go_enter Try.func33, Try.ntmps33
        go_wp2_with fail
        refine HC.out.mono ?_
        rintro e w1 ⟨rfl, b1⟩
        have B1 := Lib.hid b1
        clear b1
        go_wp2_with fail
        go_ret
        exact ⟨rfl, B1.out⟩
      · rw [decide_eq_false (show ¬ hasD l i from fun q => h1 (by have := q.2.2; rw [LX.out] at this; exact this))]
        have HC := Lib.hid (if_pos hok ▸ HC.out)
        clear hok
        have t0 : decide (0 ≤ i) = true := decide_eq_true h0
        have t1 : decide (i < (n : Int)) = false := decide_eq_false h1
        go_enter Try.func33, Try.ntmps33
        go_wp2_with fail
        refine HC.out.mono ?_
        rintro e w1 ⟨rfl, b1⟩
        have B1 := Lib.hid b1
        clear b1
        go_wp2_with fail
        go_ret
        exact ⟨rfl, B1.out⟩
    · rw [decide_eq_false (show ¬ hasD l i from fun q => h0 q.2.1)]
      have HC := Lib.hid (if_pos hok ▸ HC.out)
      clear hok
      have t0 : decide (0 ≤ i) = false := decide_eq_false h0
      go_enter Try.func33, Try.ntmps33
      go_wp2_with fail
      refine HC.out.mono ?_
      rintro e w1 ⟨rfl, b1⟩
      have B1 := Lib.hid b1
      clear b1
      go_wp2_with fail
      go_ret
      exact ⟨rfl, B1.out⟩
  · rw [decide_eq_false (show ¬ hasD l i from fun q => hok q.1)]
    have HC := Lib.hid (if_neg hok ▸ HC.out)
    clear hok
    go_enter Try.func33, Try.ntmps33
    go_wp2_with fail
    refine HC.out.mono ?_
    rintro e w1 ⟨rfl, b1⟩
    have B1 := Lib.hid b1
    clear b1
    go_wp2_with fail
    go_ret
    exact ⟨rfl, B1.out⟩

set_option maxHeartbeats 1000000 in
theorem with9_any (A : Option Addr) (n c : Nat) (l : List Ds) (k : Nat) (o r : Bool) (z : Int) (w : World) (hx : Dss w A n c l) (hk : k < n) (hn : n ≤ 1000) (fz : Fit z) :
    Calls Try.prog 34 #[.slice A n c, .int .i64 (k : Int), .agg #[.bool o, .bool r, .int .i64 z]] w (NewD (l.set k (o, r, z)) w) := by
  have LX := Lib.hid hx.1
  have FZ := Lib.hid fz
  have hnc := hx.2.1
  have k0 := Bk.new w 34 #[.bool o, .bool r, .int .i64 z]
  have b0 := (Below.refl w.heap.size w).alloc (Nat.le_refl _) (.cells #[.bool o, .bool r, .int .i64 z] 34)
  obtain ⟨gt, hgt⟩ : ∃ g, w.heap.size = g := ⟨_, rfl⟩
  obtain ⟨W, hW⟩ : ∃ W, w.alloc (.cells #[.bool o, .bool r, .int .i64 z] 34) = W := ⟨_, rfl⟩
  have HX := Lib.hid (hx.below b0)
  rw [hW] at k0 b0 HX
  rw [hgt] at k0
  have HW := Lib.hid hW
  have HGT := Lib.hid hgt
  have K0 := Lib.hid k0
  have B0 := Lib.hid b0
  obtain ⟨p, hp⟩ : ∃ p, l.set k (o, r, z) = p := ⟨_, rfl⟩
  rw [hp]
  have HP := Lib.hid hp
  clear hx fz k0 b0 hW hgt hp
  go_enter Try.func34, Try.ntmps34
  go_upto_region 1 with fail
  rw [HW.out]
  try rw [HGT.out]
  clear HW
  go_upto_region 2 with (at_builtin; refine wpList_append_dss _ rfl _ _ 22 rfl 34 _ rfl Try.underlying22 infoD W.heap.size none 0 [] 0 rfl rfl (OwnD.nil_ _ _ _) A n c l rfl HX.out (by simp; omega) (Nat.le_refl _) ?_; intro A1 c1 w1 ho hgr; rw [List.nil_append] at ho ⊢; have b1 : Below W.heap.size W w1 := (Below.refl _ _).grown hgr (Nat.le_refl _) (by intro k hk; simp [Value.ownBlock] at hk); have OC := Lib.hid ho; have BC := Lib.hid (below3 B0.out b1); have KC := Lib.hid (K0.out.below b1 K0.out.lt); have hbw : w.heap.size ≤ W.heap.size := B0.out.size; have hgw : gt < W.heap.size := K0.out.lt; clear ho hgr b1)
  obtain ⟨g, rfl, hg, hbg⟩ := OC.out.some_ (by rw [LX.out]; omega)
  obtain ⟨⟨c0, c1', c2⟩, f0, f1, f2⟩ := OC.out.at3 (show k < l.length by rw [LX.out]; exact hk)
  have O2 := Lib.hid (OC.out.put k (x := (o, r, z)) FZ.out)
  have B2 := Lib.hid (below_put3 (g := g) BC.out (by have := B0.out.size; omega) k (o, r, z))
  have hcap := OC.out.cap
  have hll := LX.out
  have q0 : _ = some (Value.bool o) := KC.out.cell 0
  have q1 : _ = some (Value.bool r) := KC.out.cell 1
  have q2 : _ = some (Value.int .i64 z) := KC.out.cell 2
  have lq := KC.out.lt
  have hne : gt ≠ g := by omega
  rw [LX.out] at hcap ⊢
  clear hll
  unfold put3 at O2 B2
  go_wp2_with fail
  go_ret
  have hpl : p.length = n := by rw [← HP.out, List.length_set]; exact LX.out
  refine ⟨some ⟨g, 0, none⟩, c1, by rw [hpl]; rfl, ?_, B2.out⟩
  rw [← HP.out]
  exact O2.out.base (by rw [HGT.out]; omega)

/-- The place where somebody waits, or -1. -/
def AtD (l : List Ds) (id : Int) (w : World) (e : Ending) (w' : World) : Prop :=
  (∃ j : Nat, e = .returned (.int .i64 (j : Int)) ∧ j < l.length ∧ waitsD l id ∧ firstW l id = j ∧ Below w.heap.size w w') ∨ (e = .returned (.int .i64 (-1)) ∧ ¬ waitsD l id ∧ Below w.heap.size w w')

set_option maxHeartbeats 1000000 in
theorem waits9_any (A : Option Addr) (n c : Nat) (l : List Ds) (id : Int) (w : World) (hx : Dss w A n c l) :
    Calls Try.prog 36 #[.slice A n c, .int .i64 id] w (AtD l id w) := by
  have HX := Lib.hid hx
  have LX := Lib.hid hx.1
  have hnc := hx.2.1
  clear hx
  go_enter Try.func36, Try.ntmps36
  go_wp2_with fail
  go_loopw [9] (fun t wr => ∃ k : Nat, k ≤ n ∧ t = .int .i64 k ∧ Hid (Below w.heap.size w wr ∧ ∀ j, j < k → who l j ≠ id)) (fun t _ => n - (intOf t).toNat)
  case atStart => exact ⟨0, Nat.zero_le _, rfl, Lib.hid ⟨Below.refl _ _, fun i hi => by omega⟩⟩
  case round =>
    rename World => wr
    obtain ⟨k, hk, rfl, OK⟩ := hrel
    by_cases hkn : k < n
    · obtain ⟨bL, oL, rfl, hbL, c0, c1, c2⟩ := (HX.out.below OK.out.1).at_ hkn
      have hkl : k < l.length := by rw [LX.out]; exact hkn
      obtain ⟨⟨o1, r1, z1⟩, hz⟩ : ∃ x, dth l k = x := ⟨_, rfl⟩
      rw [hz] at c0 c1 c2
      simp only at c0 c1 c2
      have HW := Lib.hid (who_def l k hz)
      have ba := (Below.refl wr.heap.size wr).alloc (Nat.le_refl _) (.cells #[.bool o1, .bool r1, .int .i64 z1] 34)
      have ka := Bk.new wr 34 #[.bool o1, .bool r1, .int .i64 z1]
      have bv := below3 OK.out.1 ba
      obtain ⟨g, hg⟩ : ∃ g, wr.heap.size = g := ⟨_, rfl⟩
      obtain ⟨V, hV⟩ : ∃ V, wr.alloc (.cells #[.bool o1, .bool r1, .int .i64 z1] 34) = V := ⟨_, rfl⟩
      rw [hV] at ka bv
      rw [hg] at ka
      have HV := Lib.hid hV
      have HG := Lib.hid hg
      have KA := Lib.hid ka
      have BV := Lib.hid bv
      clear hV hg ka bv ba hz
      go_upto_region 4 with fail
      rw [HV.out]
      try rw [HG.out]
      clear HV HG c0 c1 c2 hbL
      have a2 : _ = some (Value.int .i64 z1) := KA.out.cell 2
      have la := KA.out.lt
      by_cases he : z1 = id
      · have heb : (z1 == id) = true := by simpa using he
        have HH : Hid (who l k = id) := Lib.hid (by rw [HW.out]; exact he)
        clear he
        go_wp2_with fail
        go_ret
        exact .inl ⟨k, rfl, hkl, ⟨k, hkl, HH.out⟩, firstW_at hkl HH.out OK.out.2, BV.out⟩
      · have heb : (z1 == id) = false := by simpa using he
        have OK2 : Hid (Below w.heap.size w V ∧ ∀ j, j < k + 1 → who l j ≠ id) := Lib.hid ⟨BV.out, fun i hi => by
          by_cases e : i = k
          · subst e; rw [HW.out]; exact he
          · exact OK.out.2 i (by omega)⟩
        clear he OK
        go_wp2_with fail
        go_roundw
        case rel => exact ⟨k + 1, by omega, by go_num, OK2⟩
        case measure => simp [intOf]; omega
    · obtain rfl : n = k := by omega
      go_wp2_with fail
      go_ret
      exact .inr ⟨rfl, fun ⟨j, hj, e⟩ => absurd e (OK.out.2 j (by have := LX.out; omega)), OK.out.1⟩

set_option maxHeartbeats 2000000 in
theorem ropen_any (A : Option Addr) (n c : Nat) (l : List Ds) (i : Int) (w : World) (hx : Dss w A n c l) (hn : n ≤ 1000) :
    Calls Try.prog 11 #[.slice A n c, .int .i64 i] w (ListD (openR l i) w) := by
  have HX := Lib.hid hx
  have LX := Lib.hid hx.1
  have hnc := hx.2.1
  clear hx
  by_cases hh : hasD l i
  · obtain ⟨k, rfl, hkl⟩ := has_nat hh
    have hkn : k < n := by rw [← LX.out]; exact hkl
    have HH := Lib.hid hh
    clear hh
    obtain ⟨⟨o1, r1, z1⟩, hz⟩ : ∃ x, dth l k = x := ⟨_, rfl⟩
    have HZ := Lib.hid hz
    have HW := Lib.hid (who_def l k hz)
    have hok : okD (o1, r1, z1) := by rw [← hz]; exact (HH.out.1.2 k hkl).1
    have FZ : Hid (Fit z1) := Lib.hid (by have := HX.out.fit hkn; rw [hz] at this; exact this)
    clear hz
    cases o1 with
    | true =>
      rw [show openR l (k : Int) = (6, []) by unfold openR; rw [if_pos HH.out, Int.toNat_natCast, HZ.out]; rfl]
      clear hok
      go_enter Try.func11, Try.ntmps11
      go_wp2_with fail
      refine (in9_any A n c l _ _ HX.out).mono ?_
      rw [decide_eq_true HH.out]
      rintro e w1 ⟨rfl, b1⟩
      have B1 := Lib.hid b1
      have HX1 := Lib.hid (HX.out.below b1)
      clear b1
      obtain ⟨b, o, rfl, hb, c0, c1, c2⟩ := HX1.out.at_ hkn
      rw [HZ.out] at c0 c1 c2
      simp only at c0 c1 c2
      go_wp2_with fail
      exact bodyPost_ret (v := .tuple #[.slice none 0 0, .int .i64 6]) (by simp [results, Try.results11, go_sem]) rfl ⟨none, 0, rfl, OwnD.nil_ _ _ _, B1.out⟩
    | false =>
      obtain ⟨p, hp⟩ : ∃ p, l.set k quiD = p := ⟨_, rfl⟩
      have HP := Lib.hid hp
      rw [show openR l (k : Int) = (0, p) by unfold openR; rw [if_pos HH.out, Int.toNat_natCast, HZ.out, hp]; rfl]
      clear hok hp
      go_enter Try.func11, Try.ntmps11
      go_wp2_with fail
      refine (in9_any A n c l _ _ HX.out).mono ?_
      rw [decide_eq_true HH.out]
      rintro e w1 ⟨rfl, b1⟩
      have B1 := Lib.hid b1
      have HX1 := Lib.hid (HX.out.below b1)
      clear b1
      obtain ⟨b, o, rfl, hb, c0, c1, c2⟩ := HX1.out.at_ hkn
      rw [HZ.out] at c0 c1 c2
      simp only at c0 c1 c2
      go_wp2_with fail
      refine (with9_any _ n c l k true false (-1) _ HX1.out hkn hn (by decide)).mono ?_
      rw [HP.out]
      rintro e w2 ⟨A2, d2, rfl, p2, b2⟩
      have O2 := Lib.hid (p2.base B1.out.size)
      have B2 := Lib.hid (below3 B1.out b2)
      clear p2 b2
      go_wp2_with fail
      exact bodyPost_ret (v := .tuple #[.slice A2 p.length d2, .int .i64 0]) (by simp [results, Try.results11, go_sem]) rfl ⟨A2, d2, rfl, O2.out, B2.out⟩
  · rw [show openR l i = (1, []) by unfold openR; rw [if_neg hh]]
    have HH := Lib.hid hh
    clear hh
    go_enter Try.func11, Try.ntmps11
    go_wp2_with fail
    refine (in9_any A n c l _ _ HX.out).mono ?_
    rw [decide_eq_false HH.out]
    rintro e w1 ⟨rfl, b1⟩
    have B1 := Lib.hid b1
    have HX1 := Lib.hid (HX.out.below b1)
    clear b1
    go_wp2_with fail
    exact bodyPost_ret (v := .tuple #[.slice none 0 0, .int .i64 1]) (by simp [results, Try.results11, go_sem]) rfl ⟨none, 0, rfl, OwnD.nil_ _ _ _, B1.out⟩

set_option maxHeartbeats 2000000 in
theorem rshut_any (A : Option Addr) (n c : Nat) (l : List Ds) (i : Int) (w : World) (hx : Dss w A n c l) (hn : n ≤ 1000) :
    Calls Try.prog 13 #[.slice A n c, .int .i64 i] w (WhoD (shutR l i) w) := by
  have HX := Lib.hid hx
  have LX := Lib.hid hx.1
  have hnc := hx.2.1
  clear hx
  by_cases hh : hasD l i
  · obtain ⟨k, rfl, hkl⟩ := has_nat hh
    have hkn : k < n := by rw [← LX.out]; exact hkl
    have HH := Lib.hid hh
    clear hh
    obtain ⟨⟨o1, r1, z1⟩, hz⟩ : ∃ x, dth l k = x := ⟨_, rfl⟩
    have HZ := Lib.hid hz
    have HW := Lib.hid (who_def l k hz)
    have hok : okD (o1, r1, z1) := by rw [← hz]; exact (HH.out.1.2 k hkl).1
    have FZ : Hid (Fit z1) := Lib.hid (by have := HX.out.fit hkn; rw [hz] at this; exact this)
    clear hz
    cases o1 with
    | false =>
      rw [show shutR l (k : Int) = (5, 0, []) by unfold shutR; rw [if_pos HH.out, Int.toNat_natCast, HZ.out]; rfl]
      clear hok
      go_enter Try.func13, Try.ntmps13
      go_wp2_with fail
      refine (in9_any A n c l _ _ HX.out).mono ?_
      rw [decide_eq_true HH.out]
      rintro e w1 ⟨rfl, b1⟩
      have B1 := Lib.hid b1
      have HX1 := Lib.hid (HX.out.below b1)
      clear b1
      obtain ⟨b, o, rfl, hb, c0, c1, c2⟩ := HX1.out.at_ hkn
      rw [HZ.out] at c0 c1 c2
      simp only at c0 c1 c2
      go_wp2_with fail
      exact bodyPost_ret (v := .tuple #[.int .i64 0, .slice none 0 0, .int .i64 5]) (by simp [results, Try.results13, go_sem]) rfl ⟨none, 0, rfl, OwnD.nil_ _ _ _, B1.out⟩
    | true =>
      obtain ⟨p, hp⟩ : ∃ p, l.set k nilD = p := ⟨_, rfl⟩
      have HP := Lib.hid hp
      rw [show shutR l (k : Int) = (0, z1, p) by unfold shutR; rw [if_pos HH.out, Int.toNat_natCast, HZ.out, HW.out, hp]; rfl]
      clear hok hp
      go_enter Try.func13, Try.ntmps13
      go_wp2_with fail
      refine (in9_any A n c l _ _ HX.out).mono ?_
      rw [decide_eq_true HH.out]
      rintro e w1 ⟨rfl, b1⟩
      have B1 := Lib.hid b1
      have HX1 := Lib.hid (HX.out.below b1)
      clear b1
      obtain ⟨b, o, rfl, hb, c0, c1, c2⟩ := HX1.out.at_ hkn
      rw [HZ.out] at c0 c1 c2
      simp only at c0 c1 c2
      go_wp2_with fail
      refine wp_region_held (S := fun U => b < U.heap.size ∧ U.cell? ⟨b, o + k * 3 + 2, none⟩ = some (.int .i64 z1)) (by kernel_rfl) ?_
      change wpAnyH _ _ _ _ _ _ _ _ (World.drew w1)
      have hS0 : b < w1.drew.heap.size ∧ w1.drew.cell? ⟨b, o + k * 3 + 2, none⟩ = some (.int .i64 z1) := ⟨hb, c2⟩
      have HX2 := Lib.hid (HX1.out.below (Below.refl _ _).drew)
      have B2 := Lib.hid (B1.out.drew)
      generalize w1.drew = U0 at hS0 HX2 B2 ⊢
      clear hb c0 c1 c2 HX1 B1
      refine take_at (i := 0) (d := 17) (v := .slice (some ⟨b, o, none⟩) n c) rfl rfl (by kernel_rfl) (by kernel_rfl) (by kernel_rfl) (fun _ _ _ h => h) (.inl ⟨by kernel_rfl, fun U hU => by go_simp⟩) hS0 ?_
      simp only [Act.put, List.setIfInBounds_toArray, List.set_cons_zero, List.set_cons_succ]
      refine take_at (i := 1) (d := 18) (v := .int .i64 (k : Int)) rfl rfl (by kernel_rfl) (by kernel_rfl) (by kernel_rfl) (fun _ _ _ h => h) (.inl ⟨by kernel_rfl, fun U hU => by go_simp⟩) hS0 ?_
      simp only [Act.put, List.setIfInBounds_toArray, List.set_cons_zero, List.set_cons_succ]
      refine take_at (i := 2) (d := 19) (v := .pointer (some ⟨b, o + k * 3, none⟩)) rfl rfl (by kernel_rfl) (by kernel_rfl) (by kernel_rfl) (fun _ _ _ h => h) (.inl ⟨by kernel_rfl, fun U hU => by go_simp⟩) hS0 ?_
      simp only [Act.put, List.setIfInBounds_toArray, List.set_cons_zero, List.set_cons_succ]
      refine take_at (i := 3) (d := 20) (v := .pointer (some ⟨b, o + k * 3 + 2, none⟩)) rfl rfl (by kernel_rfl) (by kernel_rfl) (by kernel_rfl) (fun _ _ _ h => h) (.inl ⟨by kernel_rfl, fun U hU => by go_simp⟩) hS0 ?_
      simp only [Act.put, List.setIfInBounds_toArray, List.set_cons_zero, List.set_cons_succ]
      refine take_at (i := 4) (d := 21) (v := .int .i64 z1) rfl rfl (by kernel_rfl) (by kernel_rfl) (by kernel_rfl) (fun _ _ _ h => h) (.inl ⟨by kernel_rfl, fun U hU => by obtain ⟨hl, hc⟩ := hU; go_simp⟩) hS0 ?_
      simp only [Act.put, List.setIfInBounds_toArray, List.set_cons_zero, List.set_cons_succ]
      refine take_at (i := 5) (d := 22) (v := .slice (some ⟨b, o, none⟩) n c) rfl rfl (by kernel_rfl) (by kernel_rfl) (by kernel_rfl) (fun _ _ _ h => h) (.inl ⟨by kernel_rfl, fun U hU => by go_simp⟩) hS0 ?_
      simp only [Act.put, List.setIfInBounds_toArray, List.set_cons_zero, List.set_cons_succ]
      refine take_at (i := 6) (d := 23) (v := .int .i64 (k : Int)) rfl rfl (by kernel_rfl) (by kernel_rfl) (by kernel_rfl) (fun _ _ _ h => h) (.inl ⟨by kernel_rfl, fun U hU => by go_simp⟩) hS0 ?_
      simp only [Act.put, List.setIfInBounds_toArray, List.set_cons_zero, List.set_cons_succ]
      refine take_at (i := 7) (d := 24) (v := .agg #[.bool false, .bool false, .int .i64 (-1)]) rfl rfl (by kernel_rfl) (by kernel_rfl) (by kernel_rfl) (fun _ _ _ h => h) (.inl ⟨by kernel_rfl, fun U hU => by go_simp⟩) hS0 ?_
      simp only [Act.put, List.setIfInBounds_toArray, List.set_cons_zero, List.set_cons_succ]
      refine wpAnyH_all (rs := [8]) (by kernel_rfl) (by simp) ?_
      intro i hi
      simp only [List.mem_cons, List.not_mem_nil, or_false] at hi
      subst hi
      unfold wpOp
      go_simp
      left
      refine (with9_any _ n c l k false false (-1) _ HX2.out hkn hn (by decide)).mono ?_
      rw [HP.out]
      rintro e U2 ⟨A2, d2, rfl, p2, b2⟩
      have hS2 : b < U2.heap.size ∧ U2.cell? ⟨b, o + k * 3 + 2, none⟩ = some (.int .i64 z1) := ⟨Nat.lt_of_lt_of_le hS0.1 b2.size, (b2.cell (p := ⟨b, o + k * 3 + 2, none⟩) hS0.1).trans hS0.2⟩
      have O2 := Lib.hid (p2.base B2.out.size)
      have BF := Lib.hid (below3 B2.out b2)
      refine ⟨hS2, ?_⟩
      clear b2 p2
      refine take_at (i := 9) (d := 4) (v := .int .i64 z1) rfl rfl (by kernel_rfl) (by kernel_rfl) (by kernel_rfl) (fun _ _ _ h => h) (.inl ⟨by kernel_rfl, fun U hU => by go_simp⟩) hS2 ?_
      simp only [Act.put, List.setIfInBounds_toArray, List.set_cons_zero, List.set_cons_succ]
      refine take_at (i := 10) (d := 5) (v := .slice A2 p.length d2) rfl rfl (by kernel_rfl) (by kernel_rfl) (by kernel_rfl) (fun _ _ _ h => h) (.inl ⟨by kernel_rfl, fun U hU => by go_simp⟩) hS2 ?_
      simp only [Act.put, List.setIfInBounds_toArray, List.set_cons_zero, List.set_cons_succ]
      refine take_at (i := 11) (d := 6) (v := .int .i64 0) rfl rfl (by kernel_rfl) (by kernel_rfl) (by kernel_rfl) (fun _ _ _ h => h) (.inl ⟨by kernel_rfl, fun U hU => by go_simp⟩) hS2 ?_
      simp only [Act.put, List.setIfInBounds_toArray, List.set_cons_zero, List.set_cons_succ]
      refine wpAnyH_done (by kernel_rfl) ?_ _
      go_wp2_with fail
      exact bodyPost_ret (v := .tuple #[.int .i64 z1, .slice A2 p.length d2, .int .i64 0]) (by simp [results, Try.results13, go_sem]) rfl ⟨A2, d2, rfl, O2.out, BF.out⟩
  · rw [show shutR l i = (1, 0, []) by unfold shutR; rw [if_neg hh]]
    have HH := Lib.hid hh
    clear hh
    go_enter Try.func13, Try.ntmps13
    go_wp2_with fail
    refine (in9_any A n c l _ _ HX.out).mono ?_
    rw [decide_eq_false HH.out]
    rintro e w1 ⟨rfl, b1⟩
    have B1 := Lib.hid b1
    have HX1 := Lib.hid (HX.out.below b1)
    clear b1
    go_wp2_with fail
    exact bodyPost_ret (v := .tuple #[.int .i64 0, .slice none 0 0, .int .i64 1]) (by simp [results, Try.results13, go_sem]) rfl ⟨none, 0, rfl, OwnD.nil_ _ _ _, B1.out⟩

set_option maxHeartbeats 2000000 in
theorem rfire_any (A : Option Addr) (n c : Nat) (l : List Ds) (i : Int) (w : World) (hx : Dss w A n c l) (hn : n ≤ 1000) :
    Calls Try.prog 17 #[.slice A n c, .int .i64 i] w (WhoD (fireR l i) w) := by
  have HX := Lib.hid hx
  have LX := Lib.hid hx.1
  have hnc := hx.2.1
  clear hx
  by_cases hh : hasD l i
  · obtain ⟨k, rfl, hkl⟩ := has_nat hh
    have hkn : k < n := by rw [← LX.out]; exact hkl
    have HH := Lib.hid hh
    clear hh
    obtain ⟨⟨o1, r1, z1⟩, hz⟩ : ∃ x, dth l k = x := ⟨_, rfl⟩
    have HZ := Lib.hid hz
    have HW := Lib.hid (who_def l k hz)
    have hok : okD (o1, r1, z1) := by rw [← hz]; exact (HH.out.1.2 k hkl).1
    have FZ : Hid (Fit z1) := Lib.hid (by have := HX.out.fit hkn; rw [hz] at this; exact this)
    clear hz
    cases o1 with
    | false =>
      rw [show fireR l (k : Int) = (5, 0, []) by unfold fireR; rw [if_pos HH.out, Int.toNat_natCast, HZ.out]; rfl]
      clear hok
      go_enter Try.func17, Try.ntmps17
      go_wp2_with fail
      refine (in9_any A n c l _ _ HX.out).mono ?_
      rw [decide_eq_true HH.out]
      rintro e w1 ⟨rfl, b1⟩
      have B1 := Lib.hid b1
      have HX1 := Lib.hid (HX.out.below b1)
      clear b1
      obtain ⟨b, o, rfl, hb, c0, c1, c2⟩ := HX1.out.at_ hkn
      rw [HZ.out] at c0 c1 c2
      simp only at c0 c1 c2
      go_wp2_with fail
      exact bodyPost_ret (v := .tuple #[.int .i64 0, .slice none 0 0, .int .i64 5]) (by simp [results, Try.results17, go_sem]) rfl ⟨none, 0, rfl, OwnD.nil_ _ _ _, B1.out⟩
    | true =>
      by_cases h0 : 0 ≤ z1
      · obtain ⟨p, hp⟩ : ∃ p, l.set k quiD = p := ⟨_, rfl⟩
        have HP := Lib.hid hp
        rw [show fireR l (k : Int) = (0, z1, p) by unfold fireR; rw [if_pos HH.out, Int.toNat_natCast, HZ.out, HW.out, hp, if_pos rfl, if_pos h0]]
        have t0 : decide (0 ≤ z1) = true := decide_eq_true h0
        clear hok hp h0
        go_enter Try.func17, Try.ntmps17
        go_wp2_with fail
        refine (in9_any A n c l _ _ HX.out).mono ?_
        rw [decide_eq_true HH.out]
        rintro e w1 ⟨rfl, b1⟩
        have B1 := Lib.hid b1
        have HX1 := Lib.hid (HX.out.below b1)
        clear b1
        obtain ⟨b, o, rfl, hb, c0, c1, c2⟩ := HX1.out.at_ hkn
        rw [HZ.out] at c0 c1 c2
        simp only at c0 c1 c2
        go_wp2_with fail
        refine wp_region_held (S := fun U => b < U.heap.size ∧ U.cell? ⟨b, o + k * 3 + 2, none⟩ = some (.int .i64 z1)) (by kernel_rfl) ?_
        change wpAnyH _ _ _ _ _ _ _ _ (World.drew w1)
        have hS0 : b < w1.drew.heap.size ∧ w1.drew.cell? ⟨b, o + k * 3 + 2, none⟩ = some (.int .i64 z1) := ⟨hb, c2⟩
        have HX2 := Lib.hid (HX1.out.below (Below.refl _ _).drew)
        have B2 := Lib.hid (B1.out.drew)
        generalize w1.drew = U0 at hS0 HX2 B2 ⊢
        clear hb c0 c1 c2 HX1 B1
        refine take_at (i := 0) (d := 23) (v := .slice (some ⟨b, o, none⟩) n c) rfl rfl (by kernel_rfl) (by kernel_rfl) (by kernel_rfl) (fun _ _ _ h => h) (.inl ⟨by kernel_rfl, fun U hU => by go_simp⟩) hS0 ?_
        simp only [Act.put, List.setIfInBounds_toArray, List.set_cons_zero, List.set_cons_succ]
        refine take_at (i := 1) (d := 24) (v := .int .i64 (k : Int)) rfl rfl (by kernel_rfl) (by kernel_rfl) (by kernel_rfl) (fun _ _ _ h => h) (.inl ⟨by kernel_rfl, fun U hU => by go_simp⟩) hS0 ?_
        simp only [Act.put, List.setIfInBounds_toArray, List.set_cons_zero, List.set_cons_succ]
        refine take_at (i := 2) (d := 25) (v := .pointer (some ⟨b, o + k * 3, none⟩)) rfl rfl (by kernel_rfl) (by kernel_rfl) (by kernel_rfl) (fun _ _ _ h => h) (.inl ⟨by kernel_rfl, fun U hU => by go_simp⟩) hS0 ?_
        simp only [Act.put, List.setIfInBounds_toArray, List.set_cons_zero, List.set_cons_succ]
        refine take_at (i := 3) (d := 26) (v := .pointer (some ⟨b, o + k * 3 + 2, none⟩)) rfl rfl (by kernel_rfl) (by kernel_rfl) (by kernel_rfl) (fun _ _ _ h => h) (.inl ⟨by kernel_rfl, fun U hU => by go_simp⟩) hS0 ?_
        simp only [Act.put, List.setIfInBounds_toArray, List.set_cons_zero, List.set_cons_succ]
        refine take_at (i := 4) (d := 27) (v := .int .i64 z1) rfl rfl (by kernel_rfl) (by kernel_rfl) (by kernel_rfl) (fun _ _ _ h => h) (.inl ⟨by kernel_rfl, fun U hU => by obtain ⟨hl, hc⟩ := hU; go_simp⟩) hS0 ?_
        simp only [Act.put, List.setIfInBounds_toArray, List.set_cons_zero, List.set_cons_succ]
        refine take_at (i := 5) (d := 28) (v := .slice (some ⟨b, o, none⟩) n c) rfl rfl (by kernel_rfl) (by kernel_rfl) (by kernel_rfl) (fun _ _ _ h => h) (.inl ⟨by kernel_rfl, fun U hU => by go_simp⟩) hS0 ?_
        simp only [Act.put, List.setIfInBounds_toArray, List.set_cons_zero, List.set_cons_succ]
        refine take_at (i := 6) (d := 29) (v := .int .i64 (k : Int)) rfl rfl (by kernel_rfl) (by kernel_rfl) (by kernel_rfl) (fun _ _ _ h => h) (.inl ⟨by kernel_rfl, fun U hU => by go_simp⟩) hS0 ?_
        simp only [Act.put, List.setIfInBounds_toArray, List.set_cons_zero, List.set_cons_succ]
        refine take_at (i := 7) (d := 30) (v := .agg #[.bool true, .bool false, .int .i64 (-1)]) rfl rfl (by kernel_rfl) (by kernel_rfl) (by kernel_rfl) (fun _ _ _ h => h) (.inl ⟨by kernel_rfl, fun U hU => by go_simp⟩) hS0 ?_
        simp only [Act.put, List.setIfInBounds_toArray, List.set_cons_zero, List.set_cons_succ]
        refine wpAnyH_all (rs := [8]) (by kernel_rfl) (by simp) ?_
        intro i hi
        simp only [List.mem_cons, List.not_mem_nil, or_false] at hi
        subst hi
        unfold wpOp
        go_simp
        left
        refine (with9_any _ n c l k true false (-1) _ HX2.out hkn hn (by decide)).mono ?_
        rw [HP.out]
        rintro e U2 ⟨A2, d2, rfl, p2, b2⟩
        have hS2 : b < U2.heap.size ∧ U2.cell? ⟨b, o + k * 3 + 2, none⟩ = some (.int .i64 z1) := ⟨Nat.lt_of_lt_of_le hS0.1 b2.size, (b2.cell (p := ⟨b, o + k * 3 + 2, none⟩) hS0.1).trans hS0.2⟩
        have O2 := Lib.hid (p2.base B2.out.size)
        have BF := Lib.hid (below3 B2.out b2)
        refine ⟨hS2, ?_⟩
        clear b2 p2
        refine take_at (i := 9) (d := 4) (v := .int .i64 z1) rfl rfl (by kernel_rfl) (by kernel_rfl) (by kernel_rfl) (fun _ _ _ h => h) (.inl ⟨by kernel_rfl, fun U hU => by go_simp⟩) hS2 ?_
        simp only [Act.put, List.setIfInBounds_toArray, List.set_cons_zero, List.set_cons_succ]
        refine take_at (i := 10) (d := 5) (v := .slice A2 p.length d2) rfl rfl (by kernel_rfl) (by kernel_rfl) (by kernel_rfl) (fun _ _ _ h => h) (.inl ⟨by kernel_rfl, fun U hU => by go_simp⟩) hS2 ?_
        simp only [Act.put, List.setIfInBounds_toArray, List.set_cons_zero, List.set_cons_succ]
        refine take_at (i := 11) (d := 6) (v := .int .i64 0) rfl rfl (by kernel_rfl) (by kernel_rfl) (by kernel_rfl) (fun _ _ _ h => h) (.inl ⟨by kernel_rfl, fun U hU => by go_simp⟩) hS2 ?_
        simp only [Act.put, List.setIfInBounds_toArray, List.set_cons_zero, List.set_cons_succ]
        refine wpAnyH_done (by kernel_rfl) ?_ _
        go_wp2_with fail
        exact bodyPost_ret (v := .tuple #[.int .i64 z1, .slice A2 p.length d2, .int .i64 0]) (by simp [results, Try.results17, go_sem]) rfl ⟨A2, d2, rfl, O2.out, BF.out⟩
      · obtain ⟨p, hp⟩ : ∃ p, l.set k rdyD = p := ⟨_, rfl⟩
        have HP := Lib.hid hp
        rw [show fireR l (k : Int) = (0, -1, p) by unfold fireR; rw [if_pos HH.out, Int.toNat_natCast, HZ.out, HW.out, hp, if_pos rfl, if_neg h0]]
        have t0 : decide (0 ≤ z1) = false := decide_eq_false h0
        clear hok hp h0
        go_enter Try.func17, Try.ntmps17
        go_wp2_with fail
        refine (in9_any A n c l _ _ HX.out).mono ?_
        rw [decide_eq_true HH.out]
        rintro e w1 ⟨rfl, b1⟩
        have B1 := Lib.hid b1
        have HX1 := Lib.hid (HX.out.below b1)
        clear b1
        obtain ⟨b, o, rfl, hb, c0, c1, c2⟩ := HX1.out.at_ hkn
        rw [HZ.out] at c0 c1 c2
        simp only at c0 c1 c2
        go_wp2_with fail
        refine (with9_any _ n c l k true true (-1) _ HX1.out hkn hn (by decide)).mono ?_
        rw [HP.out]
        rintro e w2 ⟨A2, d2, rfl, p2, b2⟩
        have O2 := Lib.hid (p2.base B1.out.size)
        have B2 := Lib.hid (below3 B1.out b2)
        clear p2 b2
        go_wp2_with fail
        exact bodyPost_ret (v := .tuple #[.int .i64 (-1), .slice A2 p.length d2, .int .i64 0]) (by simp [results, Try.results17, go_sem]) rfl ⟨A2, d2, rfl, O2.out, B2.out⟩
  · rw [show fireR l i = (1, 0, []) by unfold fireR; rw [if_neg hh]]
    have HH := Lib.hid hh
    clear hh
    go_enter Try.func17, Try.ntmps17
    go_wp2_with fail
    refine (in9_any A n c l _ _ HX.out).mono ?_
    rw [decide_eq_false HH.out]
    rintro e w1 ⟨rfl, b1⟩
    have B1 := Lib.hid b1
    have HX1 := Lib.hid (HX.out.below b1)
    clear b1
    go_wp2_with fail
    exact bodyPost_ret (v := .tuple #[.int .i64 0, .slice none 0 0, .int .i64 1]) (by simp [results, Try.results17, go_sem]) rfl ⟨none, 0, rfl, OwnD.nil_ _ _ _, B1.out⟩

set_option maxHeartbeats 4000000 in
theorem rarm_any (A : Option Addr) (n c : Nat) (l : List Ds) (i : Int) (id : Int) (w : World) (hx : Dss w A n c l) (hn : n ≤ 1000) (fid : Fit id) :
    Calls Try.prog 15 #[.slice A n c, .int .i64 i, .int .i64 id] w (NowD (armR l i id) w) := by
  have HX := Lib.hid hx
  have LX := Lib.hid hx.1
  have hnc := hx.2.1
  have FID := Lib.hid fid
  clear hx fid
  by_cases hh : hasD l i
  · have HH := Lib.hid hh
    by_cases hid : 0 ≤ id
    · obtain ⟨k, rfl, hkl⟩ := has_nat hh
      have hkn : k < n := by rw [← LX.out]; exact hkl
      clear hh
      obtain ⟨⟨o1, r1, z1⟩, hz⟩ : ∃ x, dth l k = x := ⟨_, rfl⟩
      have HZ := Lib.hid hz
      have HW := Lib.hid (who_def l k hz)
      have hok : okD (o1, r1, z1) := by rw [← hz]; exact (HH.out.1.2 k hkl).1
      clear hz
      have HID := Lib.hid hid
      have ti : decide (id < 0) = false := decide_eq_false (by omega)
      clear hid
      cases o1 with
      | false =>
        rw [show armR l (k : Int) id = (5, false, []) by unfold armR; rw [if_pos ⟨HH.out, HID.out⟩, Int.toNat_natCast, HZ.out]; rfl]
        clear hok
        go_enter Try.func15, Try.ntmps15
        go_wp2_with fail
        refine (in9_any A n c l _ _ HX.out).mono ?_
        rw [decide_eq_true HH.out]
        rintro e w1 ⟨rfl, b1⟩
        have B1 := Lib.hid b1
        have HX1 := Lib.hid (HX.out.below b1)
        clear b1
        obtain ⟨b, o, rfl, hb, c0, c1, c2⟩ := HX1.out.at_ hkn
        rw [HZ.out] at c0 c1 c2
        simp only at c0 c1 c2
        go_wp2_with fail
        exact bodyPost_ret (v := .tuple #[.bool false, .slice none 0 0, .int .i64 5]) (by simp [results, Try.results15, go_sem]) rfl ⟨none, 0, rfl, OwnD.nil_ _ _ _, B1.out⟩
      | true =>
        by_cases hwt : waitsD l id
        · rw [show armR l (k : Int) id = (6, false, []) by unfold armR; rw [if_pos ⟨HH.out, HID.out⟩, Int.toNat_natCast, HZ.out, if_pos rfl, if_pos hwt]]
          have HWT := Lib.hid hwt
          clear hok hwt
          go_enter Try.func15, Try.ntmps15
          go_wp2_with fail
          refine (in9_any A n c l _ _ HX.out).mono ?_
          rw [decide_eq_true HH.out]
          rintro e w1 ⟨rfl, b1⟩
          have B1 := Lib.hid b1
          have HX1 := Lib.hid (HX.out.below b1)
          clear b1
          obtain ⟨b, o, rfl, hb, c0, c1, c2⟩ := HX1.out.at_ hkn
          rw [HZ.out] at c0 c1 c2
          simp only at c0 c1 c2
          go_wp2_with fail
          refine (waits9_any _ n c l id _ HX1.out).mono ?_
          rintro e w2 (⟨j, rfl, hj, hw, hf, b2⟩ | ⟨rfl, hw, b2⟩)
          · have B2 := Lib.hid (below3 B1.out b2)
            clear hj hw hf b2
            go_wp2_with fail
            exact bodyPost_ret (v := .tuple #[.bool false, .slice none 0 0, .int .i64 6]) (by simp [results, Try.results15, go_sem]) rfl ⟨none, 0, rfl, OwnD.nil_ _ _ _, B2.out⟩
          · exact absurd HWT.out hw
        · by_cases h0 : 0 ≤ z1
          · rw [show armR l (k : Int) id = (7, false, []) by unfold armR; rw [if_pos ⟨HH.out, HID.out⟩, Int.toNat_natCast, HZ.out, HW.out, if_pos rfl, if_neg hwt, if_pos h0]]
            have t0 : decide (0 ≤ z1) = true := decide_eq_true h0
            have HWT := Lib.hid hwt
            clear hok hwt h0
            go_enter Try.func15, Try.ntmps15
            go_wp2_with fail
            refine (in9_any A n c l _ _ HX.out).mono ?_
            rw [decide_eq_true HH.out]
            rintro e w1 ⟨rfl, b1⟩
            have B1 := Lib.hid b1
            have HX1 := Lib.hid (HX.out.below b1)
            clear b1
            obtain ⟨b, o, rfl, hb, c0, c1, c2⟩ := HX1.out.at_ hkn
            rw [HZ.out] at c0 c1 c2
            simp only at c0 c1 c2
            go_wp2_with fail
            refine (waits9_any _ n c l id _ HX1.out).mono ?_
            rintro e w2 (⟨j, rfl, hj, hw, hf, b2⟩ | ⟨rfl, hw, b2⟩)
            · exact absurd hw HWT.out
            · replace c0 := (b2.cell (p := ⟨b, o + k * 3, none⟩) hb).trans c0
              replace c1 := (b2.cell (p := ⟨b, o + k * 3 + 1, none⟩) hb).trans c1
              replace c2 := (b2.cell (p := ⟨b, o + k * 3 + 2, none⟩) hb).trans c2
              replace hb := Nat.lt_of_lt_of_le hb b2.size
              have B1 := Lib.hid (below3 B1.out b2)
              have HX1 := Lib.hid (HX1.out.below b2)
              clear hw b2
              go_wp2_with fail
              exact bodyPost_ret (v := .tuple #[.bool false, .slice none 0 0, .int .i64 7]) (by simp [results, Try.results15, go_sem]) rfl ⟨none, 0, rfl, OwnD.nil_ _ _ _, B1.out⟩
          · have t0 : decide (0 ≤ z1) = false := decide_eq_false h0
            cases r1 with
            | true =>
              obtain ⟨p, hp⟩ : ∃ p, l.set k quiD = p := ⟨_, rfl⟩
              have HP := Lib.hid hp
              rw [show armR l (k : Int) id = (0, true, p) by unfold armR; rw [if_pos ⟨HH.out, HID.out⟩, Int.toNat_natCast, HZ.out, HW.out, hp, if_pos rfl, if_neg hwt, if_neg h0]; rfl]
              have HWT := Lib.hid hwt
              clear hok hwt h0 hp
              go_enter Try.func15, Try.ntmps15
              go_wp2_with fail
              refine (in9_any A n c l _ _ HX.out).mono ?_
              rw [decide_eq_true HH.out]
              rintro e w1 ⟨rfl, b1⟩
              have B1 := Lib.hid b1
              have HX1 := Lib.hid (HX.out.below b1)
              clear b1
              obtain ⟨b, o, rfl, hb, c0, c1, c2⟩ := HX1.out.at_ hkn
              rw [HZ.out] at c0 c1 c2
              simp only at c0 c1 c2
              go_wp2_with fail
              refine (waits9_any _ n c l id _ HX1.out).mono ?_
              rintro e w2 (⟨j, rfl, hj, hw, hf, b2⟩ | ⟨rfl, hw, b2⟩)
              · exact absurd hw HWT.out
              · replace c0 := (b2.cell (p := ⟨b, o + k * 3, none⟩) hb).trans c0
                replace c1 := (b2.cell (p := ⟨b, o + k * 3 + 1, none⟩) hb).trans c1
                replace c2 := (b2.cell (p := ⟨b, o + k * 3 + 2, none⟩) hb).trans c2
                replace hb := Nat.lt_of_lt_of_le hb b2.size
                have B1 := Lib.hid (below3 B1.out b2)
                have HX1 := Lib.hid (HX1.out.below b2)
                clear hw b2
                go_wp2_with fail
                refine (with9_any _ n c l k true false (-1) _ HX1.out hkn hn (by decide)).mono ?_
                rw [HP.out]
                rintro e w3 ⟨A2, d2, rfl, p2, b3⟩
                have O2 := Lib.hid (p2.base B1.out.size)
                have B2 := Lib.hid (below3 B1.out b3)
                clear p2 b3
                go_wp2_with fail
                exact bodyPost_ret (v := .tuple #[.bool true, .slice A2 p.length d2, .int .i64 0]) (by simp [results, Try.results15, go_sem]) rfl ⟨A2, d2, rfl, O2.out, B2.out⟩
            | false =>
              obtain ⟨p, hp⟩ : ∃ p, l.set k (true, false, id) = p := ⟨_, rfl⟩
              have HP := Lib.hid hp
              rw [show armR l (k : Int) id = (0, false, p) by unfold armR; rw [if_pos ⟨HH.out, HID.out⟩, Int.toNat_natCast, HZ.out, HW.out, hp, if_pos rfl, if_neg hwt, if_neg h0]; rfl]
              have HWT := Lib.hid hwt
              clear hok hwt h0 hp
              go_enter Try.func15, Try.ntmps15
              go_wp2_with fail
              refine (in9_any A n c l _ _ HX.out).mono ?_
              rw [decide_eq_true HH.out]
              rintro e w1 ⟨rfl, b1⟩
              have B1 := Lib.hid b1
              have HX1 := Lib.hid (HX.out.below b1)
              clear b1
              obtain ⟨b, o, rfl, hb, c0, c1, c2⟩ := HX1.out.at_ hkn
              rw [HZ.out] at c0 c1 c2
              simp only at c0 c1 c2
              go_wp2_with fail
              refine (waits9_any _ n c l id _ HX1.out).mono ?_
              rintro e w2 (⟨j, rfl, hj, hw, hf, b2⟩ | ⟨rfl, hw, b2⟩)
              · exact absurd hw HWT.out
              · replace c0 := (b2.cell (p := ⟨b, o + k * 3, none⟩) hb).trans c0
                replace c1 := (b2.cell (p := ⟨b, o + k * 3 + 1, none⟩) hb).trans c1
                replace c2 := (b2.cell (p := ⟨b, o + k * 3 + 2, none⟩) hb).trans c2
                replace hb := Nat.lt_of_lt_of_le hb b2.size
                have B1 := Lib.hid (below3 B1.out b2)
                have HX1 := Lib.hid (HX1.out.below b2)
                clear hw b2
                go_wp2_with fail
                refine (with9_any _ n c l k true false id _ HX1.out hkn hn FID.out).mono ?_
                rw [HP.out]
                rintro e w3 ⟨A2, d2, rfl, p2, b3⟩
                have O2 := Lib.hid (p2.base B1.out.size)
                have B2 := Lib.hid (below3 B1.out b3)
                clear p2 b3
                go_wp2_with fail
                exact bodyPost_ret (v := .tuple #[.bool false, .slice A2 p.length d2, .int .i64 0]) (by simp [results, Try.results15, go_sem]) rfl ⟨A2, d2, rfl, O2.out, B2.out⟩
    · rw [show armR l i id = (1, false, []) by unfold armR; rw [if_neg (fun q => hid q.2)]]
      have ti : decide (id < 0) = true := decide_eq_true (by omega)
      clear hh hid
      go_enter Try.func15, Try.ntmps15
      go_wp2_with fail
      refine (in9_any A n c l _ _ HX.out).mono ?_
      rw [decide_eq_true HH.out]
      rintro e w1 ⟨rfl, b1⟩
      have B1 := Lib.hid b1
      have HX1 := Lib.hid (HX.out.below b1)
      clear b1
      go_wp2_with fail
      exact bodyPost_ret (v := .tuple #[.bool false, .slice none 0 0, .int .i64 1]) (by simp [results, Try.results15, go_sem]) rfl ⟨none, 0, rfl, OwnD.nil_ _ _ _, B1.out⟩
  · have HH := Lib.hid hh
    clear hh
    rw [show armR l i id = (1, false, []) by unfold armR; rw [if_neg (fun q => HH.out q.1)]]
    go_enter Try.func15, Try.ntmps15
    go_wp2_with fail
    refine (in9_any A n c l _ _ HX.out).mono ?_
    rw [decide_eq_false HH.out]
    rintro e w1 ⟨rfl, b1⟩
    have B1 := Lib.hid b1
    have HX1 := Lib.hid (HX.out.below b1)
    clear b1
    go_wp2_with fail
    exact bodyPost_ret (v := .tuple #[.bool false, .slice none 0 0, .int .i64 1]) (by simp [results, Try.results15, go_sem]) rfl ⟨none, 0, rfl, OwnD.nil_ _ _ _, B1.out⟩

set_option maxHeartbeats 4000000 in
theorem rdrop_any (A : Option Addr) (n c : Nat) (l : List Ds) (id : Int) (w : World) (hx : Dss w A n c l) (hn : n ≤ 1000) :
    Calls Try.prog 19 #[.slice A n c, .int .i64 id] w (ListD (dropR l id) w) := by
  have HX := Lib.hid hx
  have LX := Lib.hid hx.1
  have hnc := hx.2.1
  clear hx
  by_cases hok : pollOk l
  · have HOK := Lib.hid hok
    by_cases hid : 0 ≤ id
    · have ti : decide (id < 0) = false := decide_eq_false (by omega)
      by_cases hwt : waitsD l id
      · obtain ⟨p, hp⟩ : ∃ p, l.set (firstW l id) quiD = p := ⟨_, rfl⟩
        have HP := Lib.hid hp
        rw [show dropR l id = (0, p) by unfold dropR; rw [if_pos hok, if_pos ⟨hid, hwt⟩, hp]]
        have HWT := Lib.hid hwt
        clear hok hid hwt hp
        go_enter Try.func19, Try.ntmps19
        go_wp2_with fail
        refine (rcheck_any A n c l _ HX.out).mono ?_
        rw [if_pos HOK.out]
        rintro e w1 ⟨rfl, b1⟩
        have B1 := Lib.hid b1
        have HX1 := Lib.hid (HX.out.below b1)
        clear b1
        go_wp2_with fail
        refine (waits9_any _ n c l id _ HX1.out).mono ?_
        rintro e w2 (⟨j, rfl, hj, hw, hf, b2⟩ | ⟨rfl, hw, b2⟩)
        · have B2 := Lib.hid (below3 B1.out b2)
          have HX2 := Lib.hid (HX1.out.below b2)
          rw [hf] at HP
          have hjn : j < n := by rw [← LX.out]; exact hj
          clear hj hw hf b2
          go_wp2_with fail
          refine (with9_any _ n c l j true false (-1) _ HX2.out hjn hn (by decide)).mono ?_
          rw [HP.out]
          rintro e w3 ⟨A2, d2, rfl, p2, b3⟩
          have O2 := Lib.hid (p2.base B2.out.size)
          have B3 := Lib.hid (below3 B2.out b3)
          clear p2 b3
          go_wp2_with fail
          exact bodyPost_ret (v := .tuple #[.slice A2 p.length d2, .int .i64 0]) (by simp [results, Try.results19, go_sem]) rfl ⟨A2, d2, rfl, O2.out, B3.out⟩
        · exact absurd HWT.out hw
      · rw [show dropR l id = (5, []) by unfold dropR; rw [if_pos hok, if_neg (fun q => hwt q.2)]]
        have HWT := Lib.hid hwt
        clear hok hid hwt
        go_enter Try.func19, Try.ntmps19
        go_wp2_with fail
        refine (rcheck_any A n c l _ HX.out).mono ?_
        rw [if_pos HOK.out]
        rintro e w1 ⟨rfl, b1⟩
        have B1 := Lib.hid b1
        have HX1 := Lib.hid (HX.out.below b1)
        clear b1
        go_wp2_with fail
        refine (waits9_any _ n c l id _ HX1.out).mono ?_
        rintro e w2 (⟨j, rfl, hj, hw, hf, b2⟩ | ⟨rfl, hw, b2⟩)
        · exact absurd hw HWT.out
        · have B2 := Lib.hid (below3 B1.out b2)
          have HX2 := Lib.hid (HX1.out.below b2)
          clear hw b2
          go_wp2_with fail
          exact bodyPost_ret (v := .tuple #[.slice none 0 0, .int .i64 5]) (by simp [results, Try.results19, go_sem]) rfl ⟨none, 0, rfl, OwnD.nil_ _ _ _, B2.out⟩
    · have ti : decide (id < 0) = true := decide_eq_true (by omega)
      rw [show dropR l id = (5, []) by unfold dropR; rw [if_pos hok, if_neg (fun q => hid q.1)]]
      clear hok hid
      go_enter Try.func19, Try.ntmps19
      go_wp2_with fail
      refine (rcheck_any A n c l _ HX.out).mono ?_
      rw [if_pos HOK.out]
      rintro e w1 ⟨rfl, b1⟩
      have B1 := Lib.hid b1
      have HX1 := Lib.hid (HX.out.below b1)
      clear b1
      go_wp2_with fail
      refine (waits9_any _ n c l id _ HX1.out).mono ?_
      rintro e w2 (⟨j, rfl, hj, hw, hf, b2⟩ | ⟨rfl, hw, b2⟩)
      · have B2 := Lib.hid (below3 B1.out b2)
        have HX2 := Lib.hid (HX1.out.below b2)
        clear hj hw hf b2
        go_wp2_with fail
        exact bodyPost_ret (v := .tuple #[.slice none 0 0, .int .i64 5]) (by simp [results, Try.results19, go_sem]) rfl ⟨none, 0, rfl, OwnD.nil_ _ _ _, B2.out⟩
      · have B2 := Lib.hid (below3 B1.out b2)
        have HX2 := Lib.hid (HX1.out.below b2)
        clear hw b2
        go_wp2_with fail
        exact bodyPost_ret (v := .tuple #[.slice none 0 0, .int .i64 5]) (by simp [results, Try.results19, go_sem]) rfl ⟨none, 0, rfl, OwnD.nil_ _ _ _, B2.out⟩
  · have HOK := Lib.hid hok
    rw [show dropR l id = (1, []) by unfold dropR; rw [if_neg hok]]
    clear hok
    go_enter Try.func19, Try.ntmps19
    go_wp2_with fail
    refine (rcheck_any A n c l _ HX.out).mono ?_
    rw [if_neg HOK.out]
    rintro e w1 ⟨rfl, b1⟩
    have B1 := Lib.hid b1
    have HX1 := Lib.hid (HX.out.below b1)
    clear b1
    go_wp2_with fail
    exact bodyPost_ret (v := .tuple #[.slice none 0 0, .int .i64 1]) (by simp [results, Try.results19, go_sem]) rfl ⟨none, 0, rfl, OwnD.nil_ _ _ _, B1.out⟩

end Go.Proofs.Ytndbaoiabmldgaa

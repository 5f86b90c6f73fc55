/-
  Layer 9's words; '==' on descriptors; the document's Check: whether descriptors may be.
-/
import Derived.Test.YtndbaoiabmldgaaRows
import Derived.Test.YtndbaoiabmldgaaDsc
import Derived.Test.YtndbaoiabmldgaaKit
import Derived.Test.YtndbaoiabmldgaaCalmT
import Derived.Laws.StructEq
import Derived.Deep.QuietTactic
import Derived.BigQuiet
import Derived.Deep.CutBlock
namespace Go.Proofs.Ytndbaoiabmldgaa
open Go.RowKit

theorem infoD : (Try.prog.info? 34).map (fun i => (i.zero, i.size, i.bytes)) = some (some (.agg #[.bool false, .bool false, .int .i64 0]), 3, 16) := by kernel_rfl
theorem fd_stood : Try.prog.stoodInHeld 34 = false := by kernel_rfl
theorem fd_guardT : Try.prog.eqGuardType Try.prog.depth 34 = false := by kernel_rfl
theorem guard_fd (o : BinOp) (x y : Operand) (a b : Array Value) (W : World) : (eqGuard o 34 x y (.agg a) (.agg b)).run Try.prog W = .ok () W := run_eqGuard_agg W o 34 x y a b fd_guardT
theorem neq_fd (o r : Bool) (z : Int) (o' r' : Bool) (z' : Int) (W : World) : (binOp .neq 34 (.agg #[.bool o, .bool r, .int .i64 z]) (.agg #[.bool o', .bool r', .int .i64 z'])).run Try.prog W = .ok (.bool (!decide (((o, r, z) : Ds) = (o', r', z')))) W := by
  rw [run_neq_struct, run_equalIn_struct (d := 9999) W 34 _ _ (by simp [Program.fieldsOf, Try.underlying34]) fd_stood]
  simp only [Program.fieldsOf, Try.underlying34]
  by_cases h3 : z = z'
  · subst h3
    cases o <;> cases o' <;> cases r <;> cases r' <;> simp [Op.eqFields, go_sem]
  · have t3 : (z == z') = false := by simpa using h3
    cases o <;> cases o' <;> cases r <;> cases r' <;> simp [Op.eqFields, go_sem, t3, h3]
theorem eql_fd (o r : Bool) (z : Int) (o' r' : Bool) (z' : Int) (W : World) : (binOp .eql 34 (.agg #[.bool o, .bool r, .int .i64 z]) (.agg #[.bool o', .bool r', .int .i64 z'])).run Try.prog W = .ok (.bool (decide (((o, r, z) : Ds) = (o', r', z')))) W := by
  rw [run_eql_struct, run_equalIn_struct (d := 9999) W 34 _ _ (by simp [Program.fieldsOf, Try.underlying34]) fd_stood]
  simp only [Program.fieldsOf, Try.underlying34]
  by_cases h3 : z = z'
  · subst h3
    cases o <;> cases o' <;> cases r <;> cases r' <;> simp [Op.eqFields, go_sem]
  · have t3 : (z == z') = false := by simpa using h3
    cases o <;> cases o' <;> cases r <;> cases r' <;> simp [Op.eqFields, go_sem, t3, h3]

/-- One that is not Open; one that is, where nothing came, and nobody waits; one where an edge came. -/
abbrev nilD : Ds := (false, false, -1)
abbrev quiD : Ds := (true, false, -1)
abbrev rdyD : Ds := (true, true, -1)
def okD (x : Ds) : Prop := (x.1 = false → x.2.1 = false ∧ x.2.2 = -1) ∧ (x.2.1 = true → x.2.2 = -1) ∧ -1 ≤ x.2.2
instance (x : Ds) : Decidable (okD x) := by unfold okD; exact inferInstance
def okAtD (l : List Ds) (i : Nat) : Prop := okD (dth l i) ∧ ∀ j, j < i → 0 ≤ who l i → who l j ≠ who l i
def OkToD (l : List Ds) (k : Nat) : Prop := ∀ i, i < k → okAtD l i
def pollOk (l : List Ds) : Prop := l.length ≤ 16 ∧ OkToD l l.length
noncomputable instance (l : List Ds) : Decidable (pollOk l) := Classical.propDecidable _
theorem who_def (l : List Ds) (k : Nat) {o r : Bool} {z : Int} (h : dth l k = (o, r, z)) : who l k = z := by unfold who; rw [h]

set_option maxRecDepth 100000 in
set_option maxHeartbeats 8000000 in
theorem rcheck_any (A : Option Addr) (n c : Nat) (l : List Ds) (w : World) (hx : Dss w A n c l) :
    Calls Try.prog 27 #[.slice A n c] w (RetB (.int .i64 (if pollOk l then 0 else 1)) w) := by
  have HX := Lib.hid hx
  have LX := Lib.hid hx.1
  have hnc := hx.2.1
  obtain ⟨r, hr⟩ : ∃ r : Int, (if pollOk l then (0 : Int) else 1) = r := ⟨_, rfl⟩
  rw [hr]
  have HR := Lib.hid hr
  clear hx hr
  by_cases hn : 16 < n
  · have HNO : Hid (¬ pollOk l) := Lib.hid (fun q => by have := q.1; have := LX.out; omega)
    go_enter Try.func27, Try.ntmps27
    go_wp2_with fail
    go_ret
    exact RetB.of (ret_i64 (by rw [← HR.out, if_neg HNO.out])) (Below.refl _ _)
  · go_enter Try.func27, Try.ntmps27
    go_wp2_with fail
    go_loopw [12] (fun t wr => ∃ k : Nat, k ≤ n ∧ t = .int .i64 k ∧ Hid (Below w.heap.size w wr ∧ OkToD l k)) (fun t _ => n - (intOf t).toNat)
    case atStart => exact ⟨0, Nat.zero_le _, rfl, Lib.hid ⟨Below.refl _ _, fun i hi => by omega⟩⟩
    case round =>
      rename World => wr
      obtain ⟨k, hk, rfl, OK⟩ := hrel
      by_cases hkn : k < n
      · obtain ⟨bL, oL, rfl, hbL, c0, c1, c2⟩ := (HX.out.below OK.out.1).at_ hkn
        have hkl : k < l.length := by rw [LX.out]; exact hkn
        obtain ⟨⟨o1, r1, z1⟩, hz⟩ : ∃ x, dth l k = x := ⟨_, rfl⟩
        rw [hz] at c0 c1 c2
        simp only at c0 c1 c2
        have HZ := Lib.hid hz
        have HW := Lib.hid (who_def l k hz)
        have ba := (Below.refl wr.heap.size wr).alloc (Nat.le_refl _) (.cells #[.bool o1, .bool r1, .int .i64 z1] 34)
        have ka := Bk.new wr 34 #[.bool o1, .bool r1, .int .i64 z1]
        have bv := below3 OK.out.1 ba
        obtain ⟨g, hg⟩ : ∃ g, wr.heap.size = g := ⟨_, rfl⟩
        obtain ⟨V, hV⟩ : ∃ V, wr.alloc (.cells #[.bool o1, .bool r1, .int .i64 z1] 34) = V := ⟨_, rfl⟩
        rw [hV] at ka bv
        rw [hg] at ka
        have HV := Lib.hid hV
        have HG := Lib.hid hg
        have KA := Lib.hid ka
        have BV := Lib.hid bv
        clear hV hg ka bv ba hz
        go_upto_region 6 with fail
        rw [HV.out]
        try rw [HG.out]
        clear HV HG c0 c1 c2 hbL
        have q0 : _ = some (Value.bool o1) := KA.out.cell 0
        have q1 : _ = some (Value.bool r1) := KA.out.cell 1
        have q2 : _ = some (Value.int .i64 z1) := KA.out.cell 2
        have lq := KA.out.lt
        by_cases hz : z1 < -1
        · have t1 : decide (z1 < -1) = true := decide_eq_true hz
          have HNO := Lib.hid (show ¬ pollOk l from fun q => by
            have := (q.2 k hkl).1
            rw [HZ.out] at this
            obtain ⟨a1, a2, a3⟩ := this
            have a3 : -1 ≤ z1 := a3; omega)

          clear hz
          go_wp2_with fail
          go_ret
          exact RetB.of (ret_i64 (by rw [← HR.out, if_neg HNO.out])) BV.out
        · have t1 : decide (z1 < -1) = false := decide_eq_false hz
          have hz1 : -1 ≤ z1 := by omega
          clear hz
          by_cases hz : z1 = -1
          · subst hz
            clear t1 hz1
            have hz := trivial
            cases o1 with
            | false =>
              cases r1 with
              | true =>
                have HNO := Lib.hid (show ¬ pollOk l from fun q => by
                  have := (q.2 k hkl).1
                  rw [HZ.out] at this
                  obtain ⟨a1, a2, a3⟩ := this
                  exact absurd (show true = false from (a1 rfl).1) (by decide))

                clear hz
                go_wp2_with fail
                go_ret
                exact RetB.of (ret_i64 (by rw [← HR.out, if_neg HNO.out])) BV.out
              | false =>
                have HOKD := Lib.hid (show okD (false, false, -1) by unfold okD; simp; try omega)
                clear hz
                go_wp2_with fail
                go_loopw [47] (fun t wr => ∃ j : Nat, j ≤ k ∧ t = .int .i64 j ∧ Hid (Below w.heap.size w wr ∧ Bk wr g 34 #[.bool false, .bool false, .int .i64 (-1)] ∧ ∀ i, i < j → 0 ≤ ((-1) : Int) → who l i ≠ (-1))) (fun t _ => k - (intOf t).toNat)
                case atStart => exact ⟨0, Nat.zero_le _, rfl, Lib.hid ⟨BV.out, KA.out, fun i hi => by omega⟩⟩
                case round =>
                  clear BV KA q0 q1 q2 lq
                  rename World => wi
                  obtain ⟨j, hj, rfl, WJ⟩ := hrel
                  by_cases hjk : j < k
                  · obtain ⟨bM, oM, eM, hbM, d0, d1, d2⟩ := (HX.out.below WJ.out.1).at_ (show j < n by omega)
                    injection eM with eM
                    injection eM with e1 e2 _
                    subst e1 e2
                    obtain ⟨⟨o2, r2, z2⟩, hy⟩ : ∃ x, dth l j = x := ⟨_, rfl⟩
                    rw [hy] at d0 d1 d2
                    simp only at d0 d1 d2
                    have HX2 := Lib.hid (who_def l j hy)
                    have t0 : _ = some (Value.bool false) := WJ.out.2.1.cell 0
                    have t1 : _ = some (Value.bool false) := WJ.out.2.1.cell 1
                    have t2 : _ = some (Value.int .i64 (-1)) := WJ.out.2.1.cell 2
                    have lt := WJ.out.2.1.lt
                    have kj := Bk.new wi 34 #[.bool o2, .bool r2, .int .i64 z2]
                    have bj := (Below.refl wi.heap.size wi).alloc (Nat.le_refl _) (.cells #[.bool o2, .bool r2, .int .i64 z2] 34)
                    have KT := WJ.out.2.1.below bj WJ.out.2.1.lt
                    have BJ := below3 WJ.out.1 bj
                    obtain ⟨gj, hgj⟩ : ∃ g, wi.heap.size = g := ⟨_, rfl⟩
                    obtain ⟨Vj, hVj⟩ : ∃ V, wi.alloc (.cells #[.bool o2, .bool r2, .int .i64 z2] 34) = V := ⟨_, rfl⟩
                    rw [hVj] at kj KT BJ
                    rw [hgj] at kj
                    have HVj := Lib.hid hVj
                    have HGj := Lib.hid hgj
                    have KJ := Lib.hid kj
                    have KT := Lib.hid KT
                    have BJ := Lib.hid BJ
                    clear hVj hgj kj bj hy
                    go_upto_region 11 with fail
                    rw [HVj.out]
                    try rw [HGj.out]
                    clear HVj HGj d0 d1 d2 t0 t1 t2 lt hbM
                    have t0 : _ = some (Value.bool false) := KT.out.cell 0
                    have t1 : _ = some (Value.bool false) := KT.out.cell 1
                    have t2 : _ = some (Value.int .i64 (-1)) := KT.out.cell 2
                    have u2 : _ = some (Value.int .i64 z2) := KJ.out.cell 2
                    have lt := KT.out.lt
                    have lu := KJ.out.lt
                    have WJ2 : Hid (Below w.heap.size w Vj ∧ Bk Vj g 34 #[.bool false, .bool false, .int .i64 (-1)] ∧ ∀ i, i < j + 1 → 0 ≤ ((-1) : Int) → who l i ≠ (-1)) := Lib.hid ⟨BJ.out, KT.out, fun i hi h0 => by omega⟩
                    clear WJ KT BJ
                    go_wp2_with fail
                    go_roundw
                    case rel => exact ⟨j + 1, by omega, by go_num, WJ2⟩
                    case measure => simp [intOf]; omega
                  · have hjn : j = k := by omega
                    have OK2 : Hid (Below w.heap.size w wi ∧ OkToD l (k + 1)) := Lib.hid ⟨WJ.out.1, fun i hi => by
                      by_cases e : i = k
                      · subst e
                        exact ⟨by rw [HZ.out]; exact HOKD.out, fun q hq h0 => by rw [HW.out] at h0 ⊢; exact WJ.out.2.2 q (by omega) h0⟩
                      · exact OK.out.2 i (by omega)⟩
                    clear WJ hjk
                    go_wp2_with fail
                    go_roundw
                    case rel => exact ⟨k + 1, by omega, by go_num, OK2⟩
                    case measure => simp [intOf]; omega
            | true =>
              cases r1 with
              | true =>
                have HOKD := Lib.hid (show okD (true, true, -1) by unfold okD; simp; try omega)
                clear hz
                go_wp2_with fail
                go_loopw [47] (fun t wr => ∃ j : Nat, j ≤ k ∧ t = .int .i64 j ∧ Hid (Below w.heap.size w wr ∧ Bk wr g 34 #[.bool true, .bool true, .int .i64 (-1)] ∧ ∀ i, i < j → 0 ≤ ((-1) : Int) → who l i ≠ (-1))) (fun t _ => k - (intOf t).toNat)
                case atStart => exact ⟨0, Nat.zero_le _, rfl, Lib.hid ⟨BV.out, KA.out, fun i hi => by omega⟩⟩
                case round =>
                  clear BV KA q0 q1 q2 lq
                  rename World => wi
                  obtain ⟨j, hj, rfl, WJ⟩ := hrel
                  by_cases hjk : j < k
                  · obtain ⟨bM, oM, eM, hbM, d0, d1, d2⟩ := (HX.out.below WJ.out.1).at_ (show j < n by omega)
                    injection eM with eM
                    injection eM with e1 e2 _
                    subst e1 e2
                    obtain ⟨⟨o2, r2, z2⟩, hy⟩ : ∃ x, dth l j = x := ⟨_, rfl⟩
                    rw [hy] at d0 d1 d2
                    simp only at d0 d1 d2
                    have HX2 := Lib.hid (who_def l j hy)
                    have t0 : _ = some (Value.bool true) := WJ.out.2.1.cell 0
                    have t1 : _ = some (Value.bool true) := WJ.out.2.1.cell 1
                    have t2 : _ = some (Value.int .i64 (-1)) := WJ.out.2.1.cell 2
                    have lt := WJ.out.2.1.lt
                    have kj := Bk.new wi 34 #[.bool o2, .bool r2, .int .i64 z2]
                    have bj := (Below.refl wi.heap.size wi).alloc (Nat.le_refl _) (.cells #[.bool o2, .bool r2, .int .i64 z2] 34)
                    have KT := WJ.out.2.1.below bj WJ.out.2.1.lt
                    have BJ := below3 WJ.out.1 bj
                    obtain ⟨gj, hgj⟩ : ∃ g, wi.heap.size = g := ⟨_, rfl⟩
                    obtain ⟨Vj, hVj⟩ : ∃ V, wi.alloc (.cells #[.bool o2, .bool r2, .int .i64 z2] 34) = V := ⟨_, rfl⟩
                    rw [hVj] at kj KT BJ
                    rw [hgj] at kj
                    have HVj := Lib.hid hVj
                    have HGj := Lib.hid hgj
                    have KJ := Lib.hid kj
                    have KT := Lib.hid KT
                    have BJ := Lib.hid BJ
                    clear hVj hgj kj bj hy
                    go_upto_region 11 with fail
                    rw [HVj.out]
                    try rw [HGj.out]
                    clear HVj HGj d0 d1 d2 t0 t1 t2 lt hbM
                    have t0 : _ = some (Value.bool true) := KT.out.cell 0
                    have t1 : _ = some (Value.bool true) := KT.out.cell 1
                    have t2 : _ = some (Value.int .i64 (-1)) := KT.out.cell 2
                    have u2 : _ = some (Value.int .i64 z2) := KJ.out.cell 2
                    have lt := KT.out.lt
                    have lu := KJ.out.lt
                    have WJ2 : Hid (Below w.heap.size w Vj ∧ Bk Vj g 34 #[.bool true, .bool true, .int .i64 (-1)] ∧ ∀ i, i < j + 1 → 0 ≤ ((-1) : Int) → who l i ≠ (-1)) := Lib.hid ⟨BJ.out, KT.out, fun i hi h0 => by omega⟩
                    clear WJ KT BJ
                    go_wp2_with fail
                    go_roundw
                    case rel => exact ⟨j + 1, by omega, by go_num, WJ2⟩
                    case measure => simp [intOf]; omega
                  · have hjn : j = k := by omega
                    have OK2 : Hid (Below w.heap.size w wi ∧ OkToD l (k + 1)) := Lib.hid ⟨WJ.out.1, fun i hi => by
                      by_cases e : i = k
                      · subst e
                        exact ⟨by rw [HZ.out]; exact HOKD.out, fun q hq h0 => by rw [HW.out] at h0 ⊢; exact WJ.out.2.2 q (by omega) h0⟩
                      · exact OK.out.2 i (by omega)⟩
                    clear WJ hjk
                    go_wp2_with fail
                    go_roundw
                    case rel => exact ⟨k + 1, by omega, by go_num, OK2⟩
                    case measure => simp [intOf]; omega
              | false =>
                have HOKD := Lib.hid (show okD (true, false, -1) by unfold okD; simp; try omega)
                clear hz
                go_wp2_with fail
                go_loopw [47] (fun t wr => ∃ j : Nat, j ≤ k ∧ t = .int .i64 j ∧ Hid (Below w.heap.size w wr ∧ Bk wr g 34 #[.bool true, .bool false, .int .i64 (-1)] ∧ ∀ i, i < j → 0 ≤ ((-1) : Int) → who l i ≠ (-1))) (fun t _ => k - (intOf t).toNat)
                case atStart => exact ⟨0, Nat.zero_le _, rfl, Lib.hid ⟨BV.out, KA.out, fun i hi => by omega⟩⟩
                case round =>
                  clear BV KA q0 q1 q2 lq
                  rename World => wi
                  obtain ⟨j, hj, rfl, WJ⟩ := hrel
                  by_cases hjk : j < k
                  · obtain ⟨bM, oM, eM, hbM, d0, d1, d2⟩ := (HX.out.below WJ.out.1).at_ (show j < n by omega)
                    injection eM with eM
                    injection eM with e1 e2 _
                    subst e1 e2
                    obtain ⟨⟨o2, r2, z2⟩, hy⟩ : ∃ x, dth l j = x := ⟨_, rfl⟩
                    rw [hy] at d0 d1 d2
                    simp only at d0 d1 d2
                    have HX2 := Lib.hid (who_def l j hy)
                    have t0 : _ = some (Value.bool true) := WJ.out.2.1.cell 0
                    have t1 : _ = some (Value.bool false) := WJ.out.2.1.cell 1
                    have t2 : _ = some (Value.int .i64 (-1)) := WJ.out.2.1.cell 2
                    have lt := WJ.out.2.1.lt
                    have kj := Bk.new wi 34 #[.bool o2, .bool r2, .int .i64 z2]
                    have bj := (Below.refl wi.heap.size wi).alloc (Nat.le_refl _) (.cells #[.bool o2, .bool r2, .int .i64 z2] 34)
                    have KT := WJ.out.2.1.below bj WJ.out.2.1.lt
                    have BJ := below3 WJ.out.1 bj
                    obtain ⟨gj, hgj⟩ : ∃ g, wi.heap.size = g := ⟨_, rfl⟩
                    obtain ⟨Vj, hVj⟩ : ∃ V, wi.alloc (.cells #[.bool o2, .bool r2, .int .i64 z2] 34) = V := ⟨_, rfl⟩
                    rw [hVj] at kj KT BJ
                    rw [hgj] at kj
                    have HVj := Lib.hid hVj
                    have HGj := Lib.hid hgj
                    have KJ := Lib.hid kj
                    have KT := Lib.hid KT
                    have BJ := Lib.hid BJ
                    clear hVj hgj kj bj hy
                    go_upto_region 11 with fail
                    rw [HVj.out]
                    try rw [HGj.out]
                    clear HVj HGj d0 d1 d2 t0 t1 t2 lt hbM
                    have t0 : _ = some (Value.bool true) := KT.out.cell 0
                    have t1 : _ = some (Value.bool false) := KT.out.cell 1
                    have t2 : _ = some (Value.int .i64 (-1)) := KT.out.cell 2
                    have u2 : _ = some (Value.int .i64 z2) := KJ.out.cell 2
                    have lt := KT.out.lt
                    have lu := KJ.out.lt
                    have WJ2 : Hid (Below w.heap.size w Vj ∧ Bk Vj g 34 #[.bool true, .bool false, .int .i64 (-1)] ∧ ∀ i, i < j + 1 → 0 ≤ ((-1) : Int) → who l i ≠ (-1)) := Lib.hid ⟨BJ.out, KT.out, fun i hi h0 => by omega⟩
                    clear WJ KT BJ
                    go_wp2_with fail
                    go_roundw
                    case rel => exact ⟨j + 1, by omega, by go_num, WJ2⟩
                    case measure => simp [intOf]; omega
                  · have hjn : j = k := by omega
                    have OK2 : Hid (Below w.heap.size w wi ∧ OkToD l (k + 1)) := Lib.hid ⟨WJ.out.1, fun i hi => by
                      by_cases e : i = k
                      · subst e
                        exact ⟨by rw [HZ.out]; exact HOKD.out, fun q hq h0 => by rw [HW.out] at h0 ⊢; exact WJ.out.2.2 q (by omega) h0⟩
                      · exact OK.out.2 i (by omega)⟩
                    clear WJ hjk
                    go_wp2_with fail
                    go_roundw
                    case rel => exact ⟨k + 1, by omega, by go_num, OK2⟩
                    case measure => simp [intOf]; omega
          · have hz0 : 0 ≤ z1 := by omega
            have t2 : (z1 != -1) = true := by simpa using hz
            have t3 : decide (0 ≤ z1) = true := decide_eq_true hz0
            cases o1 with
            | false =>
              cases r1 with
              | true =>
                have HNO := Lib.hid (show ¬ pollOk l from fun q => by
                  have := (q.2 k hkl).1
                  rw [HZ.out] at this
                  obtain ⟨a1, a2, a3⟩ := this
                  exact absurd (show true = false from (a1 rfl).1) (by decide))

                clear hz
                go_wp2_with fail
                go_ret
                exact RetB.of (ret_i64 (by rw [← HR.out, if_neg HNO.out])) BV.out
              | false =>
                have HNO := Lib.hid (show ¬ pollOk l from fun q => by
                  have := (q.2 k hkl).1
                  rw [HZ.out] at this
                  obtain ⟨a1, a2, a3⟩ := this
                  exact hz (a1 rfl).2)

                clear hz
                go_wp2_with fail
                go_ret
                exact RetB.of (ret_i64 (by rw [← HR.out, if_neg HNO.out])) BV.out
            | true =>
              cases r1 with
              | true =>
                have HNO := Lib.hid (show ¬ pollOk l from fun q => by
                  have := (q.2 k hkl).1
                  rw [HZ.out] at this
                  obtain ⟨a1, a2, a3⟩ := this
                  exact hz (a2 rfl))

                clear hz
                go_wp2_with fail
                go_ret
                exact RetB.of (ret_i64 (by rw [← HR.out, if_neg HNO.out])) BV.out
              | false =>
                have HOKD := Lib.hid (show okD (true, false, z1) by unfold okD; simp; try omega)
                clear hz
                go_wp2_with fail
                go_loopw [47] (fun t wr => ∃ j : Nat, j ≤ k ∧ t = .int .i64 j ∧ Hid (Below w.heap.size w wr ∧ Bk wr g 34 #[.bool true, .bool false, .int .i64 z1] ∧ ∀ i, i < j → 0 ≤ (z1 : Int) → who l i ≠ z1)) (fun t _ => k - (intOf t).toNat)
                case atStart => exact ⟨0, Nat.zero_le _, rfl, Lib.hid ⟨BV.out, KA.out, fun i hi => by omega⟩⟩
                case round =>
                  clear BV KA q0 q1 q2 lq
                  rename World => wi
                  obtain ⟨j, hj, rfl, WJ⟩ := hrel
                  by_cases hjk : j < k
                  · obtain ⟨bM, oM, eM, hbM, d0, d1, d2⟩ := (HX.out.below WJ.out.1).at_ (show j < n by omega)
                    injection eM with eM
                    injection eM with e1 e2 _
                    subst e1 e2
                    obtain ⟨⟨o2, r2, z2⟩, hy⟩ : ∃ x, dth l j = x := ⟨_, rfl⟩
                    rw [hy] at d0 d1 d2
                    simp only at d0 d1 d2
                    have HX2 := Lib.hid (who_def l j hy)
                    have t0 : _ = some (Value.bool true) := WJ.out.2.1.cell 0
                    have t1 : _ = some (Value.bool false) := WJ.out.2.1.cell 1
                    have t2 : _ = some (Value.int .i64 z1) := WJ.out.2.1.cell 2
                    have lt := WJ.out.2.1.lt
                    have kj := Bk.new wi 34 #[.bool o2, .bool r2, .int .i64 z2]
                    have bj := (Below.refl wi.heap.size wi).alloc (Nat.le_refl _) (.cells #[.bool o2, .bool r2, .int .i64 z2] 34)
                    have KT := WJ.out.2.1.below bj WJ.out.2.1.lt
                    have BJ := below3 WJ.out.1 bj
                    obtain ⟨gj, hgj⟩ : ∃ g, wi.heap.size = g := ⟨_, rfl⟩
                    obtain ⟨Vj, hVj⟩ : ∃ V, wi.alloc (.cells #[.bool o2, .bool r2, .int .i64 z2] 34) = V := ⟨_, rfl⟩
                    rw [hVj] at kj KT BJ
                    rw [hgj] at kj
                    have HVj := Lib.hid hVj
                    have HGj := Lib.hid hgj
                    have KJ := Lib.hid kj
                    have KT := Lib.hid KT
                    have BJ := Lib.hid BJ
                    clear hVj hgj kj bj hy
                    go_upto_region 11 with fail
                    rw [HVj.out]
                    try rw [HGj.out]
                    clear HVj HGj d0 d1 d2 t0 t1 t2 lt hbM
                    have t0 : _ = some (Value.bool true) := KT.out.cell 0
                    have t1 : _ = some (Value.bool false) := KT.out.cell 1
                    have t2 : _ = some (Value.int .i64 z1) := KT.out.cell 2
                    have u2 : _ = some (Value.int .i64 z2) := KJ.out.cell 2
                    have lt := KT.out.lt
                    have lu := KJ.out.lt
                    by_cases he : z2 = z1
                    · have heb : (z2 == z1) = true := by simpa using he
                      have HNO : Hid (¬ pollOk l) := Lib.hid (fun q => (q.2 k hkl).2 j hjk (by rw [HW.out]; exact hz0) (by rw [HX2.out, he, HW.out]))
                      clear he
                      go_wp2_with fail
                      go_ret
                      exact RetB.of (ret_i64 (by rw [← HR.out, if_neg HNO.out])) BJ.out
                    · have heb : (z2 == z1) = false := by simpa using he
                      have WJ2 : Hid (Below w.heap.size w Vj ∧ Bk Vj g 34 #[.bool true, .bool false, .int .i64 z1] ∧ ∀ i, i < j + 1 → 0 ≤ (z1 : Int) → who l i ≠ z1) := Lib.hid ⟨BJ.out, KT.out, fun i hi h0 => by
                        by_cases e : i = j
                        · subst e; rw [HX2.out]; exact he
                        · exact WJ.out.2.2 i (by omega) h0⟩
                      clear he WJ KT BJ
                      go_wp2_with fail
                      go_roundw
                      case rel => exact ⟨j + 1, by omega, by go_num, WJ2⟩
                      case measure => simp [intOf]; omega
                  · have hjn : j = k := by omega
                    have OK2 : Hid (Below w.heap.size w wi ∧ OkToD l (k + 1)) := Lib.hid ⟨WJ.out.1, fun i hi => by
                      by_cases e : i = k
                      · subst e
                        exact ⟨by rw [HZ.out]; exact HOKD.out, fun q hq h0 => by rw [HW.out] at h0 ⊢; exact WJ.out.2.2 q (by omega) h0⟩
                      · exact OK.out.2 i (by omega)⟩
                    clear WJ hjk
                    go_wp2_with fail
                    go_roundw
                    case rel => exact ⟨k + 1, by omega, by go_num, OK2⟩
                    case measure => simp [intOf]; omega
      · obtain rfl : n = k := by omega
        have HOK := Lib.hid (show pollOk l from ⟨by rw [LX.out]; omega, by rw [LX.out]; exact OK.out.2⟩)
        go_wp2_with fail
        go_ret
        exact RetB.of (ret_i64 (by rw [← HR.out, if_pos HOK.out])) OK.out.1

end Go.Proofs.Ytndbaoiabmldgaa

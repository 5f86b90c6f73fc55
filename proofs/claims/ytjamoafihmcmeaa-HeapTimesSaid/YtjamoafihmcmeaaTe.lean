/-
  The document's layer 8: whether a heap may be.
-/
import Derived.Test.YtjamoafihmcmeaaTd
import Derived.Test.YtjamoafihmcmeaaCalm
namespace Go.Proofs.Ytjamoafihmcmeaa
open Go.RowKit

def okAt (l : List Tm) (i : Nat) : Prop := mayT (ith l i) ∧ (0 < i → ¬ lessT (ith l i) (ith l ((i - 1) / 4))) ∧ ∀ j, j < i → jA l j ≠ jA l i
def OkTo (l : List Tm) (k : Nat) : Prop := ∀ i, i < k → okAt l i
def heapOk (l : List Tm) : Prop := l.length ≤ 256 ∧ OkTo l l.length
noncomputable instance (l : List Tm) : Decidable (heapOk l) := Classical.propDecidable _
structure SCk (V U : World) : Prop where
  b : Below V.heap.size V U

set_option maxRecDepth 100000 in
set_option maxHeartbeats 4000000 in
theorem rcheck_any (A : Option Addr) (n c : Nat) (l : List Tm) (w : World) (hx : Tms w A n c l) :
    Calls Try.prog 27 #[.slice A n c] w (RetB (.int .i64 (if heapOk l then 0 else 1)) w) := by
  have HX := Lib.hid hx
  have LX := Lib.hid hx.1
  have hnc := hx.2.1
  obtain ⟨r, hr⟩ : ∃ r : Int, (if heapOk l then (0 : Int) else 1) = r := ⟨_, rfl⟩
  rw [hr]
  have HR := Lib.hid hr
  clear hx hr
  by_cases hn : 256 < n
  · have HNO : Hid (¬ heapOk l) := Lib.hid (fun q => by have := q.1; have := LX.out; omega)
    go_enter Try.func27, Try.ntmps27
    go_wp2
    go_ret
    exact RetB.of (ret_i64 (by rw [← HR.out, if_neg HNO.out])) (Below.refl _ _)
  · go_enter Try.func27, Try.ntmps27
    go_wp2_with fail
    go_loopw [12] (fun t wr => ∃ k : Nat, k ≤ n ∧ t = .int .i64 k ∧ Hid (Below w.heap.size w wr ∧ OkTo l k)) (fun t _ => n - (intOf t).toNat)
    case atStart => exact ⟨0, Nat.zero_le _, rfl, Lib.hid ⟨Below.refl _ _, fun i hi => by omega⟩⟩
    case round =>
      rename World => wr
      obtain ⟨k, hk, rfl, OK⟩ := hrel
      by_cases hkn : k < n
      · obtain ⟨bL, oL, rfl, hbL, c0, c1⟩ := (HX.out.below OK.out.1).at_ hkn
        have hkl : k < l.length := by rw [LX.out]; exact hkn
        obtain ⟨z1, hz1⟩ : ∃ z, jO l k = z := ⟨_, rfl⟩
        obtain ⟨z2, hz2⟩ : ∃ z, jA l k = z := ⟨_, rfl⟩
        rw [hz1] at c0
        rw [hz2] at c1
        have hz : ith l k = (z1, z2) := by rw [← hz1, ← hz2]; rfl
        have HZ := Lib.hid hz
        have HZ2 := Lib.hid hz2
        have ba := (Below.refl wr.heap.size wr).alloc (Nat.le_refl _) (.cells #[.int .i64 z1, .int .i64 z2] 24)
        have ka := Bk.new wr 24 #[.int .i64 z1, .int .i64 z2]
        have bv := below3 OK.out.1 ba
        obtain ⟨g, hg⟩ : ∃ g, wr.heap.size = g := ⟨_, rfl⟩
        obtain ⟨V, hV⟩ : ∃ V, wr.alloc (.cells #[.int .i64 z1, .int .i64 z2] 24) = V := ⟨_, rfl⟩
        rw [hV] at ka bv
        rw [hg] at ka
        have HV := Lib.hid hV
        have HG := Lib.hid hg
        have KA := Lib.hid ka
        have BV := Lib.hid bv
        clear hV hg ka bv ba hz1 hz2 hz
        go_upto_region 6 with fail
        rw [HV.out]
        try rw [HG.out]
        clear HV HG c0 c1 hbL
        by_cases hmay : mayT (z1, z2)
        · cases k with
          | zero =>
            refine calm_region (S := SCk V) (by kernel_rfl) ⟨(Below.refl _ _).drew⟩ ?_
            refine calm_to (i := 0) (t := 17) (v := .agg #[.int .i64 z1, .int .i64 z2]) rfl rfl (by kernel_rfl) (by kernel_rfl) (by kernel_rfl) (fun _ _ _ h => h) (calm_of rfl (fun U hU => by have hb := hU.b; have q0 : _ = some (Value.int .i64 z1) := (KA.out.below hb KA.out.lt).cell 0; have q1 : _ = some (Value.int .i64 z2) := (KA.out.below hb KA.out.lt).cell 1; go_simp)) ?_
            simp only [List.setIfInBounds_toArray, List.set_cons_zero, List.set_cons_succ]
            refine calm_to (i := 1) (t := 18) (v := .bool true) rfl rfl (by kernel_rfl) (by kernel_rfl) (by kernel_rfl) (fun _ _ _ h => h) (calm_call1 rfl 36 (.tmp 17) #[24] rfl (enters_of Try.func36 (by kernel_rfl) rfl) (.agg #[.int .i64 z1, .int .i64 z2]) rfl (fun U hU => (mayt_any z1 z2 U).mono fun _ _ q => ⟨by rw [q.1, decide_eq_true hmay], ⟨hU.b.trans (q.2.mono hU.b.size)⟩⟩)) ?_
            simp only [List.setIfInBounds_toArray, List.set_cons_zero, List.set_cons_succ]
            refine calm_to (i := 2) (t := 19) (v := .bool false) rfl rfl (by kernel_rfl) (by kernel_rfl) (by kernel_rfl) (fun _ _ _ h => h) (calm_of rfl (fun U hU => by go_simp)) ?_
            simp only [List.setIfInBounds_toArray, List.set_cons_zero, List.set_cons_succ]
            refine calm_to (i := 3) (t := 20) (v := .bool false) rfl rfl (by kernel_rfl) (by kernel_rfl) (by kernel_rfl) (fun _ _ _ h => h) (calm_move rfl (.tmp 19) (.inl rfl) rfl) ?_
            simp only [List.setIfInBounds_toArray, List.set_cons_zero, List.set_cons_succ]
            refine calm_to (i := 4) (t := 21) (v := .int .i64 0) rfl rfl (by kernel_rfl) (by kernel_rfl) (by kernel_rfl) (fun _ _ _ h => h) (calm_move rfl (.tmp 3) (.inl rfl) rfl) ?_
            simp only [List.setIfInBounds_toArray, List.set_cons_zero, List.set_cons_succ]
            refine calm_to (i := 5) (t := 22) (v := .bool false) rfl rfl (by kernel_rfl) (by kernel_rfl) (by kernel_rfl) (fun _ _ _ h => h) (calm_of rfl (fun U hU => by go_simp)) ?_
            simp only [List.setIfInBounds_toArray, List.set_cons_zero, List.set_cons_succ]
            refine calm_to (i := 6) (t := 23) (v := .bool false) rfl rfl (by kernel_rfl) (by kernel_rfl) (by kernel_rfl) (fun _ _ _ h => h) (calm_move rfl (.tmp 22) (.inl rfl) rfl) ?_
            simp only [List.setIfInBounds_toArray, List.set_cons_zero, List.set_cons_succ]
            refine calm_to (i := 7) (t := 24) (v := undef) rfl rfl (by kernel_rfl) (by kernel_rfl) (by kernel_rfl) (fun _ _ _ h => h) (calm_skip (by kernel_rfl)) ?_
            simp only [List.setIfInBounds_toArray, List.set_cons_zero, List.set_cons_succ]
            refine calm_to (i := 8) (t := 25) (v := undef) rfl rfl (by kernel_rfl) (by kernel_rfl) (by kernel_rfl) (fun _ _ _ h => h) (calm_skip (by kernel_rfl)) ?_
            simp only [List.setIfInBounds_toArray, List.set_cons_zero, List.set_cons_succ]
            refine calm_to (i := 9) (t := 26) (v := undef) rfl rfl (by kernel_rfl) (by kernel_rfl) (by kernel_rfl) (fun _ _ _ h => h) (calm_skip (by kernel_rfl)) ?_
            simp only [List.setIfInBounds_toArray, List.set_cons_zero, List.set_cons_succ]
            refine calm_to (i := 10) (t := 27) (v := undef) rfl rfl (by kernel_rfl) (by kernel_rfl) (by kernel_rfl) (fun _ _ _ h => h) (calm_skip (by kernel_rfl)) ?_
            simp only [List.setIfInBounds_toArray, List.set_cons_zero, List.set_cons_succ]
            refine calm_to (i := 11) (t := 28) (v := undef) rfl rfl (by kernel_rfl) (by kernel_rfl) (by kernel_rfl) (fun _ _ _ h => h) (calm_skip (by kernel_rfl)) ?_
            simp only [List.setIfInBounds_toArray, List.set_cons_zero, List.set_cons_succ]
            refine calm_to (i := 12) (t := 29) (v := undef) rfl rfl (by kernel_rfl) (by kernel_rfl) (by kernel_rfl) (fun _ _ _ h => h) (calm_skip (by kernel_rfl)) ?_
            simp only [List.setIfInBounds_toArray, List.set_cons_zero, List.set_cons_succ]
            refine calm_to (i := 13) (t := 30) (v := undef) rfl rfl (by kernel_rfl) (by kernel_rfl) (by kernel_rfl) (fun _ _ _ h => h) (calm_skip (by kernel_rfl)) ?_
            simp only [List.setIfInBounds_toArray, List.set_cons_zero, List.set_cons_succ]
            refine calm_to (i := 14) (t := 31) (v := undef) rfl rfl (by kernel_rfl) (by kernel_rfl) (by kernel_rfl) (fun _ _ _ h => h) (calm_skip (by kernel_rfl)) ?_
            simp only [List.setIfInBounds_toArray, List.set_cons_zero, List.set_cons_succ]
            refine calm_to (i := 15) (t := 32) (v := .bool false) rfl rfl (by kernel_rfl) (by kernel_rfl) (by kernel_rfl) (fun _ _ _ h => h) (calm_pick rfl (.tmp 23) (.tmp 31) (.const (.bool false)) rfl false rfl rfl) ?_
            simp only [List.setIfInBounds_toArray, List.set_cons_zero, List.set_cons_succ]
            refine calm_to (i := 16) (t := 33) (v := .bool false) rfl rfl (by kernel_rfl) (by kernel_rfl) (by kernel_rfl) (fun _ _ _ h => h) (calm_pick rfl (.tmp 20) (.const (.bool true)) (.tmp 32) rfl false rfl rfl) ?_
            simp only [List.setIfInBounds_toArray, List.set_cons_zero, List.set_cons_succ]
            refine calm_done (by kernel_rfl) ?_ _
            intro U hU
            have bU := Lib.hid (below3 BV.out hU.b)
            have KU := Lib.hid (KA.out.below hU.b KA.out.lt)
            clear hU
            go_wp2_with fail
            go_loopw [38] (fun t wr => ∃ j : Nat, j ≤ 0 ∧ t = .int .i64 j ∧ Hid (Below w.heap.size w wr ∧ Bk wr g 24 #[.int .i64 z1, .int .i64 z2] ∧ ∀ i, i < j → jA l i ≠ z2)) (fun t _ => 0 - (intOf t).toNat)
            case atStart => exact ⟨0, Nat.zero_le _, rfl, Lib.hid ⟨bU.out, KU.out, fun i hi => by omega⟩⟩
            case round =>
              rename World => wi
              clear bU KU
              obtain ⟨j, hj, rfl, WJ⟩ := hrel
              by_cases hjk : j < 0
              · exact absurd hjk (by omega)
              · have hjn : j = 0 := by omega
                have OK2 : Hid (Below w.heap.size w wi ∧ OkTo l (0 + 1)) := Lib.hid ⟨WJ.out.1, fun i hi => by
                  by_cases e : i = 0
                  · subst e
                    exact ⟨by rw [HZ.out]; exact hmay, fun h => by omega, fun q hq => by rw [HZ2.out]; exact WJ.out.2.2 q (by omega)⟩
                  · exact OK.out.2 i (by omega)⟩
                clear WJ hjk
                go_wp2
                go_roundw
                case rel => exact ⟨0 + 1, by omega, by go_num, OK2⟩
                case measure => simp [intOf]; omega
          | succ k =>
            obtain ⟨m, hm⟩ : ∃ m, k / 4 = m := ⟨_, rfl⟩
            obtain ⟨bM, oM, eM, hbM, p0, p1⟩ := (HX.out.below BV.out).at_ (show m < n by omega)
            injection eM with eM
            injection eM with e1 e2 _
            subst e1 e2
            obtain ⟨y1, hy1⟩ : ∃ z, jO l m = z := ⟨_, rfl⟩
            obtain ⟨y2, hy2⟩ : ∃ z, jA l m = z := ⟨_, rfl⟩
            rw [hy1] at p0
            rw [hy2] at p1
            have hy : ith l m = (y1, y2) := by rw [← hy1, ← hy2]; rfl
            have HY := Lib.hid hy
            have HMM := Lib.hid hm
            have PL := Lib.hid hbM
            have P0 := Lib.hid p0
            have P1 := Lib.hid p1
            have hq4 : ((k : Int)).tdiv 4 = (m : Int) := by rw [Int.tdiv_eq_ediv_of_nonneg (by omega)]; omega
            have hmn : m < n := by omega
            have hwk : IntKind.i64.wrap (k : Int) = (k : Int) := by rw [IntKind.wrap_i64]; omega
            have hwm : IntKind.i64.wrap (m : Int) = (m : Int) := by rw [IntKind.wrap_i64]; omega
            simp only [Int.natCast_add, Int.natCast_one]
            clear hy1 hy2 hy hm hbM p0 p1
            by_cases hls : lessT (z1, z2) (y1, y2)
            · have HNO0 : Hid (¬ heapOk l) := Lib.hid (fun q => (q.2 (k + 1) hkl).2.1 (by omega) (by rw [HZ.out, show (k + 1 - 1) / 4 = m by have := HMM.out; omega, HY.out]; exact hls))
              refine calm_region (S := SCk V) (by kernel_rfl) ⟨(Below.refl _ _).drew⟩ ?_
              refine calm_to (i := 0) (t := 17) (v := .agg #[.int .i64 z1, .int .i64 z2]) rfl rfl (by kernel_rfl) (by kernel_rfl) (by kernel_rfl) (fun _ _ _ h => h) (calm_of rfl (fun U hU => by have hb := hU.b; have q0 : _ = some (Value.int .i64 z1) := (KA.out.below hb KA.out.lt).cell 0; have q1 : _ = some (Value.int .i64 z2) := (KA.out.below hb KA.out.lt).cell 1; go_simp)) ?_
              simp only [List.setIfInBounds_toArray, List.set_cons_zero, List.set_cons_succ]
              refine calm_to (i := 1) (t := 18) (v := .bool true) rfl rfl (by kernel_rfl) (by kernel_rfl) (by kernel_rfl) (fun _ _ _ h => h) (calm_call1 rfl 36 (.tmp 17) #[24] rfl (enters_of Try.func36 (by kernel_rfl) rfl) (.agg #[.int .i64 z1, .int .i64 z2]) rfl (fun U hU => (mayt_any z1 z2 U).mono fun _ _ q => ⟨by rw [q.1, decide_eq_true hmay], ⟨hU.b.trans (q.2.mono hU.b.size)⟩⟩)) ?_
              simp only [List.setIfInBounds_toArray, List.set_cons_zero, List.set_cons_succ]
              refine calm_to (i := 2) (t := 19) (v := .bool false) rfl rfl (by kernel_rfl) (by kernel_rfl) (by kernel_rfl) (fun _ _ _ h => h) (calm_of rfl (fun U hU => by go_simp)) ?_
              simp only [List.setIfInBounds_toArray, List.set_cons_zero, List.set_cons_succ]
              refine calm_to (i := 3) (t := 20) (v := .bool false) rfl rfl (by kernel_rfl) (by kernel_rfl) (by kernel_rfl) (fun _ _ _ h => h) (calm_move rfl (.tmp 19) (.inl rfl) rfl) ?_
              simp only [List.setIfInBounds_toArray, List.set_cons_zero, List.set_cons_succ]
              refine calm_to (i := 4) (t := 21) (v := .int .i64 ((k : Int) + 1)) rfl rfl (by kernel_rfl) (by kernel_rfl) (by kernel_rfl) (fun _ _ _ h => h) (calm_move rfl (.tmp 3) (.inl rfl) rfl) ?_
              simp only [List.setIfInBounds_toArray, List.set_cons_zero, List.set_cons_succ]
              refine calm_to (i := 5) (t := 22) (v := .bool true) rfl rfl (by kernel_rfl) (by kernel_rfl) (by kernel_rfl) (fun _ _ _ h => h) (calm_of rfl (fun U hU => by go_simp)) ?_
              simp only [List.setIfInBounds_toArray, List.set_cons_zero, List.set_cons_succ]
              refine calm_to (i := 6) (t := 23) (v := .bool true) rfl rfl (by kernel_rfl) (by kernel_rfl) (by kernel_rfl) (fun _ _ _ h => h) (calm_move rfl (.tmp 22) (.inl rfl) rfl) ?_
              simp only [List.setIfInBounds_toArray, List.set_cons_zero, List.set_cons_succ]
              refine calm_to (i := 7) (t := 24) (v := .agg #[.int .i64 z1, .int .i64 z2]) rfl rfl (by kernel_rfl) (by kernel_rfl) (by kernel_rfl) (fun _ _ _ h => h) (calm_of rfl (fun U hU => by have hb := hU.b; have q0 : _ = some (Value.int .i64 z1) := (KA.out.below hb KA.out.lt).cell 0; have q1 : _ = some (Value.int .i64 z2) := (KA.out.below hb KA.out.lt).cell 1; go_simp)) ?_
              simp only [List.setIfInBounds_toArray, List.set_cons_zero, List.set_cons_succ]
              refine calm_to (i := 8) (t := 25) (v := .slice (some ⟨bL, oL, none⟩) n c) rfl rfl (by kernel_rfl) (by kernel_rfl) (by kernel_rfl) (fun _ _ _ h => h) (calm_move rfl (.tmp 0) (.inl rfl) rfl) ?_
              simp only [List.setIfInBounds_toArray, List.set_cons_zero, List.set_cons_succ]
              refine calm_to (i := 9) (t := 26) (v := .int .i64 ((k : Int) + 1)) rfl rfl (by kernel_rfl) (by kernel_rfl) (by kernel_rfl) (fun _ _ _ h => h) (calm_move rfl (.tmp 3) (.inl rfl) rfl) ?_
              simp only [List.setIfInBounds_toArray, List.set_cons_zero, List.set_cons_succ]
              refine calm_to (i := 10) (t := 27) (v := .int .i64 k) rfl rfl (by kernel_rfl) (by kernel_rfl) (by kernel_rfl) (fun _ _ _ h => h) (calm_of rfl (fun U hU => by go_simp)) ?_
              simp only [List.setIfInBounds_toArray, List.set_cons_zero, List.set_cons_succ]
              refine calm_to (i := 11) (t := 28) (v := .int .i64 m) rfl rfl (by kernel_rfl) (by kernel_rfl) (by kernel_rfl) (fun _ _ _ h => h) (calm_of rfl (fun U hU => by go_simp)) ?_
              simp only [List.setIfInBounds_toArray, List.set_cons_zero, List.set_cons_succ]
              refine calm_to (i := 12) (t := 29) (v := .pointer (some ⟨bL, oL + m * 2, none⟩)) rfl rfl (by kernel_rfl) (by kernel_rfl) (by kernel_rfl) (fun _ _ _ h => h) (calm_of rfl (fun U hU => by go_simp)) ?_
              simp only [List.setIfInBounds_toArray, List.set_cons_zero, List.set_cons_succ]
              refine calm_to (i := 13) (t := 30) (v := .agg #[.int .i64 y1, .int .i64 y2]) rfl rfl (by kernel_rfl) (by kernel_rfl) (by kernel_rfl) (fun _ _ _ h => h) (calm_of rfl (fun U hU => by have hb := hU.b; have q0 : _ = some (Value.int .i64 y1) := (hb.cell (p := ⟨bL, oL + m * 2, none⟩) PL.out).trans P0.out; have q1 : _ = some (Value.int .i64 y2) := (hb.cell (p := ⟨bL, oL + m * 2 + 1, none⟩) PL.out).trans P1.out; go_simp)) ?_
              simp only [List.setIfInBounds_toArray, List.set_cons_zero, List.set_cons_succ]
              refine calm_to (i := 14) (t := 31) (v := .bool true) rfl rfl (by kernel_rfl) (by kernel_rfl) (by kernel_rfl) (fun _ _ _ h => h) (calm_call2 rfl 30 (.tmp 24) (.tmp 30) #[24, 24] rfl (enters_of Try.func30 (by kernel_rfl) rfl) (.agg #[.int .i64 z1, .int .i64 z2]) (.agg #[.int .i64 y1, .int .i64 y2]) rfl rfl (fun U hU => (less_any z1 z2 y1 y2 U).mono fun _ _ q => ⟨by rw [q.1, decide_eq_true hls], ⟨hU.b.trans (q.2.mono hU.b.size)⟩⟩)) ?_
              simp only [List.setIfInBounds_toArray, List.set_cons_zero, List.set_cons_succ]
              refine calm_to (i := 15) (t := 32) (v := .bool true) rfl rfl (by kernel_rfl) (by kernel_rfl) (by kernel_rfl) (fun _ _ _ h => h) (calm_pick rfl (.tmp 23) (.tmp 31) (.const (.bool false)) rfl true rfl rfl) ?_
              simp only [List.setIfInBounds_toArray, List.set_cons_zero, List.set_cons_succ]
              refine calm_to (i := 16) (t := 33) (v := .bool true) rfl rfl (by kernel_rfl) (by kernel_rfl) (by kernel_rfl) (fun _ _ _ h => h) (calm_pick rfl (.tmp 20) (.const (.bool true)) (.tmp 32) rfl false rfl rfl) ?_
              simp only [List.setIfInBounds_toArray, List.set_cons_zero, List.set_cons_succ]
              refine calm_done (by kernel_rfl) ?_ _
              intro U hU
              have bU := Lib.hid (below3 BV.out hU.b)
              have KU := Lib.hid (KA.out.below hU.b KA.out.lt)
              clear hU
              have HNO := HNO0
              go_wp2
              go_ret
              exact RetB.of (ret_i64 (by rw [← HR.out, if_neg HNO.out])) bU.out
            · 
              refine calm_region (S := SCk V) (by kernel_rfl) ⟨(Below.refl _ _).drew⟩ ?_
              refine calm_to (i := 0) (t := 17) (v := .agg #[.int .i64 z1, .int .i64 z2]) rfl rfl (by kernel_rfl) (by kernel_rfl) (by kernel_rfl) (fun _ _ _ h => h) (calm_of rfl (fun U hU => by have hb := hU.b; have q0 : _ = some (Value.int .i64 z1) := (KA.out.below hb KA.out.lt).cell 0; have q1 : _ = some (Value.int .i64 z2) := (KA.out.below hb KA.out.lt).cell 1; go_simp)) ?_
              simp only [List.setIfInBounds_toArray, List.set_cons_zero, List.set_cons_succ]
              refine calm_to (i := 1) (t := 18) (v := .bool true) rfl rfl (by kernel_rfl) (by kernel_rfl) (by kernel_rfl) (fun _ _ _ h => h) (calm_call1 rfl 36 (.tmp 17) #[24] rfl (enters_of Try.func36 (by kernel_rfl) rfl) (.agg #[.int .i64 z1, .int .i64 z2]) rfl (fun U hU => (mayt_any z1 z2 U).mono fun _ _ q => ⟨by rw [q.1, decide_eq_true hmay], ⟨hU.b.trans (q.2.mono hU.b.size)⟩⟩)) ?_
              simp only [List.setIfInBounds_toArray, List.set_cons_zero, List.set_cons_succ]
              refine calm_to (i := 2) (t := 19) (v := .bool false) rfl rfl (by kernel_rfl) (by kernel_rfl) (by kernel_rfl) (fun _ _ _ h => h) (calm_of rfl (fun U hU => by go_simp)) ?_
              simp only [List.setIfInBounds_toArray, List.set_cons_zero, List.set_cons_succ]
              refine calm_to (i := 3) (t := 20) (v := .bool false) rfl rfl (by kernel_rfl) (by kernel_rfl) (by kernel_rfl) (fun _ _ _ h => h) (calm_move rfl (.tmp 19) (.inl rfl) rfl) ?_
              simp only [List.setIfInBounds_toArray, List.set_cons_zero, List.set_cons_succ]
              refine calm_to (i := 4) (t := 21) (v := .int .i64 ((k : Int) + 1)) rfl rfl (by kernel_rfl) (by kernel_rfl) (by kernel_rfl) (fun _ _ _ h => h) (calm_move rfl (.tmp 3) (.inl rfl) rfl) ?_
              simp only [List.setIfInBounds_toArray, List.set_cons_zero, List.set_cons_succ]
              refine calm_to (i := 5) (t := 22) (v := .bool true) rfl rfl (by kernel_rfl) (by kernel_rfl) (by kernel_rfl) (fun _ _ _ h => h) (calm_of rfl (fun U hU => by go_simp)) ?_
              simp only [List.setIfInBounds_toArray, List.set_cons_zero, List.set_cons_succ]
              refine calm_to (i := 6) (t := 23) (v := .bool true) rfl rfl (by kernel_rfl) (by kernel_rfl) (by kernel_rfl) (fun _ _ _ h => h) (calm_move rfl (.tmp 22) (.inl rfl) rfl) ?_
              simp only [List.setIfInBounds_toArray, List.set_cons_zero, List.set_cons_succ]
              refine calm_to (i := 7) (t := 24) (v := .agg #[.int .i64 z1, .int .i64 z2]) rfl rfl (by kernel_rfl) (by kernel_rfl) (by kernel_rfl) (fun _ _ _ h => h) (calm_of rfl (fun U hU => by have hb := hU.b; have q0 : _ = some (Value.int .i64 z1) := (KA.out.below hb KA.out.lt).cell 0; have q1 : _ = some (Value.int .i64 z2) := (KA.out.below hb KA.out.lt).cell 1; go_simp)) ?_
              simp only [List.setIfInBounds_toArray, List.set_cons_zero, List.set_cons_succ]
              refine calm_to (i := 8) (t := 25) (v := .slice (some ⟨bL, oL, none⟩) n c) rfl rfl (by kernel_rfl) (by kernel_rfl) (by kernel_rfl) (fun _ _ _ h => h) (calm_move rfl (.tmp 0) (.inl rfl) rfl) ?_
              simp only [List.setIfInBounds_toArray, List.set_cons_zero, List.set_cons_succ]
              refine calm_to (i := 9) (t := 26) (v := .int .i64 ((k : Int) + 1)) rfl rfl (by kernel_rfl) (by kernel_rfl) (by kernel_rfl) (fun _ _ _ h => h) (calm_move rfl (.tmp 3) (.inl rfl) rfl) ?_
              simp only [List.setIfInBounds_toArray, List.set_cons_zero, List.set_cons_succ]
              refine calm_to (i := 10) (t := 27) (v := .int .i64 k) rfl rfl (by kernel_rfl) (by kernel_rfl) (by kernel_rfl) (fun _ _ _ h => h) (calm_of rfl (fun U hU => by go_simp)) ?_
              simp only [List.setIfInBounds_toArray, List.set_cons_zero, List.set_cons_succ]
              refine calm_to (i := 11) (t := 28) (v := .int .i64 m) rfl rfl (by kernel_rfl) (by kernel_rfl) (by kernel_rfl) (fun _ _ _ h => h) (calm_of rfl (fun U hU => by go_simp)) ?_
              simp only [List.setIfInBounds_toArray, List.set_cons_zero, List.set_cons_succ]
              refine calm_to (i := 12) (t := 29) (v := .pointer (some ⟨bL, oL + m * 2, none⟩)) rfl rfl (by kernel_rfl) (by kernel_rfl) (by kernel_rfl) (fun _ _ _ h => h) (calm_of rfl (fun U hU => by go_simp)) ?_
              simp only [List.setIfInBounds_toArray, List.set_cons_zero, List.set_cons_succ]
              refine calm_to (i := 13) (t := 30) (v := .agg #[.int .i64 y1, .int .i64 y2]) rfl rfl (by kernel_rfl) (by kernel_rfl) (by kernel_rfl) (fun _ _ _ h => h) (calm_of rfl (fun U hU => by have hb := hU.b; have q0 : _ = some (Value.int .i64 y1) := (hb.cell (p := ⟨bL, oL + m * 2, none⟩) PL.out).trans P0.out; have q1 : _ = some (Value.int .i64 y2) := (hb.cell (p := ⟨bL, oL + m * 2 + 1, none⟩) PL.out).trans P1.out; go_simp)) ?_
              simp only [List.setIfInBounds_toArray, List.set_cons_zero, List.set_cons_succ]
              refine calm_to (i := 14) (t := 31) (v := .bool false) rfl rfl (by kernel_rfl) (by kernel_rfl) (by kernel_rfl) (fun _ _ _ h => h) (calm_call2 rfl 30 (.tmp 24) (.tmp 30) #[24, 24] rfl (enters_of Try.func30 (by kernel_rfl) rfl) (.agg #[.int .i64 z1, .int .i64 z2]) (.agg #[.int .i64 y1, .int .i64 y2]) rfl rfl (fun U hU => (less_any z1 z2 y1 y2 U).mono fun _ _ q => ⟨by rw [q.1, decide_eq_false hls], ⟨hU.b.trans (q.2.mono hU.b.size)⟩⟩)) ?_
              simp only [List.setIfInBounds_toArray, List.set_cons_zero, List.set_cons_succ]
              refine calm_to (i := 15) (t := 32) (v := .bool false) rfl rfl (by kernel_rfl) (by kernel_rfl) (by kernel_rfl) (fun _ _ _ h => h) (calm_pick rfl (.tmp 23) (.tmp 31) (.const (.bool false)) rfl true rfl rfl) ?_
              simp only [List.setIfInBounds_toArray, List.set_cons_zero, List.set_cons_succ]
              refine calm_to (i := 16) (t := 33) (v := .bool false) rfl rfl (by kernel_rfl) (by kernel_rfl) (by kernel_rfl) (fun _ _ _ h => h) (calm_pick rfl (.tmp 20) (.const (.bool true)) (.tmp 32) rfl false rfl rfl) ?_
              simp only [List.setIfInBounds_toArray, List.set_cons_zero, List.set_cons_succ]
              refine calm_done (by kernel_rfl) ?_ _
              intro U hU
              have bU := Lib.hid (below3 BV.out hU.b)
              have KU := Lib.hid (KA.out.below hU.b KA.out.lt)
              clear hU
              go_wp2_with fail
              go_loopw [38] (fun t wr => ∃ j : Nat, j ≤ (k + 1) ∧ t = .int .i64 j ∧ Hid (Below w.heap.size w wr ∧ Bk wr g 24 #[.int .i64 z1, .int .i64 z2] ∧ ∀ i, i < j → jA l i ≠ z2)) (fun t _ => (k + 1) - (intOf t).toNat)
              case atStart => exact ⟨0, Nat.zero_le _, rfl, Lib.hid ⟨bU.out, KU.out, fun i hi => by omega⟩⟩
              case round =>
                rename World => wi
                clear bU KU
                obtain ⟨j, hj, rfl, WJ⟩ := hrel
                by_cases hjk : j < (k + 1)
                · obtain ⟨bM, oM, eM, hbM, d0, d1⟩ := (HX.out.below WJ.out.1).at_ (show j < n by omega)
                  injection eM with eM
                  injection eM with e1 e2 _
                  subst e1 e2
                  obtain ⟨x1, hx1⟩ : ∃ z, jO l j = z := ⟨_, rfl⟩
                  obtain ⟨x2, hx2⟩ : ∃ z, jA l j = z := ⟨_, rfl⟩
                  rw [hx1] at d0
                  rw [hx2] at d1
                  have HX2 := Lib.hid hx2
                  have t0 : _ = some (Value.int .i64 z1) := WJ.out.2.1.cell 0
                  have t1 : _ = some (Value.int .i64 z2) := WJ.out.2.1.cell 1
                  have lt := WJ.out.2.1.lt
                  have kj := Bk.new wi 24 #[.int .i64 x1, .int .i64 x2]
                  have bj := (Below.refl wi.heap.size wi).alloc (Nat.le_refl _) (.cells #[.int .i64 x1, .int .i64 x2] 24)
                  have KT := WJ.out.2.1.below bj WJ.out.2.1.lt
                  have BJ := below3 WJ.out.1 bj
                  obtain ⟨gj, hgj⟩ : ∃ g, wi.heap.size = g := ⟨_, rfl⟩
                  obtain ⟨Vj, hVj⟩ : ∃ V, wi.alloc (.cells #[.int .i64 x1, .int .i64 x2] 24) = V := ⟨_, rfl⟩
                  rw [hVj] at kj KT BJ
                  rw [hgj] at kj
                  have HVj := Lib.hid hVj
                  have HGj := Lib.hid hgj
                  have KJ := Lib.hid kj
                  have KT := Lib.hid KT
                  have BJ := Lib.hid BJ
                  clear hVj hgj kj bj hx1 hx2
                  go_upto_region 11 with fail
                  rw [HVj.out]
                  try rw [HGj.out]
                  clear HVj HGj d0 d1 t0 t1 lt hbM
                  have t0 : _ = some (Value.int .i64 z1) := KT.out.cell 0
                  have t1 : _ = some (Value.int .i64 z2) := KT.out.cell 1
                  have u0 : _ = some (Value.int .i64 x1) := KJ.out.cell 0
                  have u1 : _ = some (Value.int .i64 x2) := KJ.out.cell 1
                  have lt := KT.out.lt
                  have lu := KJ.out.lt
                  by_cases he : x2 = z2
                  · have heb : (x2 == z2) = true := by simpa using he
                    have HNO : Hid (¬ heapOk l) := Lib.hid (fun q => (q.2 ((k + 1)) hkl).2.2 j hjk (by rw [HX2.out, he, HZ2.out]))
                    clear he
                    go_wp2
                    go_ret
                    exact RetB.of (ret_i64 (by rw [← HR.out, if_neg HNO.out])) BJ.out
                  · have heb : (x2 == z2) = false := by simpa using he
                    have WJ2 : Hid (Below w.heap.size w Vj ∧ Bk Vj g 24 #[.int .i64 z1, .int .i64 z2] ∧ ∀ i, i < j + 1 → jA l i ≠ z2) := Lib.hid ⟨BJ.out, KT.out, fun i hi => by
                      by_cases e : i = j
                      · subst e; rw [HX2.out]; exact he
                      · exact WJ.out.2.2 i (by omega)⟩
                    clear he WJ KT BJ
                    go_wp2
                    go_roundw
                    case rel => exact ⟨j + 1, by omega, by go_num, WJ2⟩
                    case measure => simp [intOf]; omega
                · have hjn : j = (k + 1) := by omega
                  have OK2 : Hid (Below w.heap.size w wi ∧ OkTo l ((k + 1) + 1)) := Lib.hid ⟨WJ.out.1, fun i hi => by
                    by_cases e : i = (k + 1)
                    · subst e
                      exact ⟨by rw [HZ.out]; exact hmay, fun _ => by rw [HZ.out, show (k + 1 - 1) / 4 = m by have := HMM.out; omega, HY.out]; exact hls, fun q hq => by rw [HZ2.out]; exact WJ.out.2.2 q (by omega)⟩
                    · exact OK.out.2 i (by omega)⟩
                  clear WJ hjk
                  go_wp2
                  go_roundw
                  case rel => exact ⟨(k + 1) + 1, by omega, by go_num, OK2⟩
                  case measure => simp [intOf]; omega
        · 
          refine calm_region (S := SCk V) (by kernel_rfl) ⟨(Below.refl _ _).drew⟩ ?_
          refine calm_to (i := 0) (t := 17) (v := .agg #[.int .i64 z1, .int .i64 z2]) rfl rfl (by kernel_rfl) (by kernel_rfl) (by kernel_rfl) (fun _ _ _ h => h) (calm_of rfl (fun U hU => by have hb := hU.b; have q0 : _ = some (Value.int .i64 z1) := (KA.out.below hb KA.out.lt).cell 0; have q1 : _ = some (Value.int .i64 z2) := (KA.out.below hb KA.out.lt).cell 1; go_simp)) ?_
          simp only [List.setIfInBounds_toArray, List.set_cons_zero, List.set_cons_succ]
          refine calm_to (i := 1) (t := 18) (v := .bool false) rfl rfl (by kernel_rfl) (by kernel_rfl) (by kernel_rfl) (fun _ _ _ h => h) (calm_call1 rfl 36 (.tmp 17) #[24] rfl (enters_of Try.func36 (by kernel_rfl) rfl) (.agg #[.int .i64 z1, .int .i64 z2]) rfl (fun U hU => (mayt_any z1 z2 U).mono fun _ _ q => ⟨by rw [q.1, decide_eq_false hmay], ⟨hU.b.trans (q.2.mono hU.b.size)⟩⟩)) ?_
          simp only [List.setIfInBounds_toArray, List.set_cons_zero, List.set_cons_succ]
          refine calm_to (i := 2) (t := 19) (v := .bool true) rfl rfl (by kernel_rfl) (by kernel_rfl) (by kernel_rfl) (fun _ _ _ h => h) (calm_of rfl (fun U hU => by go_simp)) ?_
          simp only [List.setIfInBounds_toArray, List.set_cons_zero, List.set_cons_succ]
          refine calm_to (i := 3) (t := 20) (v := .bool true) rfl rfl (by kernel_rfl) (by kernel_rfl) (by kernel_rfl) (fun _ _ _ h => h) (calm_move rfl (.tmp 19) (.inl rfl) rfl) ?_
          simp only [List.setIfInBounds_toArray, List.set_cons_zero, List.set_cons_succ]
          refine calm_to (i := 4) (t := 21) (v := undef) rfl rfl (by kernel_rfl) (by kernel_rfl) (by kernel_rfl) (fun _ _ _ h => h) (calm_skip (by kernel_rfl)) ?_
          simp only [List.setIfInBounds_toArray, List.set_cons_zero, List.set_cons_succ]
          refine calm_to (i := 5) (t := 22) (v := undef) rfl rfl (by kernel_rfl) (by kernel_rfl) (by kernel_rfl) (fun _ _ _ h => h) (calm_skip (by kernel_rfl)) ?_
          simp only [List.setIfInBounds_toArray, List.set_cons_zero, List.set_cons_succ]
          refine calm_to (i := 6) (t := 23) (v := undef) rfl rfl (by kernel_rfl) (by kernel_rfl) (by kernel_rfl) (fun _ _ _ h => h) (calm_skip (by kernel_rfl)) ?_
          simp only [List.setIfInBounds_toArray, List.set_cons_zero, List.set_cons_succ]
          refine calm_to (i := 7) (t := 24) (v := undef) rfl rfl (by kernel_rfl) (by kernel_rfl) (by kernel_rfl) (fun _ _ _ h => h) (calm_skip (by kernel_rfl)) ?_
          simp only [List.setIfInBounds_toArray, List.set_cons_zero, List.set_cons_succ]
          refine calm_to (i := 8) (t := 25) (v := undef) rfl rfl (by kernel_rfl) (by kernel_rfl) (by kernel_rfl) (fun _ _ _ h => h) (calm_skip (by kernel_rfl)) ?_
          simp only [List.setIfInBounds_toArray, List.set_cons_zero, List.set_cons_succ]
          refine calm_to (i := 9) (t := 26) (v := undef) rfl rfl (by kernel_rfl) (by kernel_rfl) (by kernel_rfl) (fun _ _ _ h => h) (calm_skip (by kernel_rfl)) ?_
          simp only [List.setIfInBounds_toArray, List.set_cons_zero, List.set_cons_succ]
          refine calm_to (i := 10) (t := 27) (v := undef) rfl rfl (by kernel_rfl) (by kernel_rfl) (by kernel_rfl) (fun _ _ _ h => h) (calm_skip (by kernel_rfl)) ?_
          simp only [List.setIfInBounds_toArray, List.set_cons_zero, List.set_cons_succ]
          refine calm_to (i := 11) (t := 28) (v := undef) rfl rfl (by kernel_rfl) (by kernel_rfl) (by kernel_rfl) (fun _ _ _ h => h) (calm_skip (by kernel_rfl)) ?_
          simp only [List.setIfInBounds_toArray, List.set_cons_zero, List.set_cons_succ]
          refine calm_to (i := 12) (t := 29) (v := undef) rfl rfl (by kernel_rfl) (by kernel_rfl) (by kernel_rfl) (fun _ _ _ h => h) (calm_skip (by kernel_rfl)) ?_
          simp only [List.setIfInBounds_toArray, List.set_cons_zero, List.set_cons_succ]
          refine calm_to (i := 13) (t := 30) (v := undef) rfl rfl (by kernel_rfl) (by kernel_rfl) (by kernel_rfl) (fun _ _ _ h => h) (calm_skip (by kernel_rfl)) ?_
          simp only [List.setIfInBounds_toArray, List.set_cons_zero, List.set_cons_succ]
          refine calm_to (i := 14) (t := 31) (v := undef) rfl rfl (by kernel_rfl) (by kernel_rfl) (by kernel_rfl) (fun _ _ _ h => h) (calm_skip (by kernel_rfl)) ?_
          simp only [List.setIfInBounds_toArray, List.set_cons_zero, List.set_cons_succ]
          refine calm_to (i := 15) (t := 32) (v := undef) rfl rfl (by kernel_rfl) (by kernel_rfl) (by kernel_rfl) (fun _ _ _ h => h) (calm_skip (by kernel_rfl)) ?_
          simp only [List.setIfInBounds_toArray, List.set_cons_zero, List.set_cons_succ]
          refine calm_to (i := 16) (t := 33) (v := .bool true) rfl rfl (by kernel_rfl) (by kernel_rfl) (by kernel_rfl) (fun _ _ _ h => h) (calm_pick rfl (.tmp 20) (.const (.bool true)) (.tmp 32) rfl true rfl rfl) ?_
          simp only [List.setIfInBounds_toArray, List.set_cons_zero, List.set_cons_succ]
          refine calm_done (by kernel_rfl) ?_ _
          intro U hU
          have bU := Lib.hid (below3 BV.out hU.b)
          have KU := Lib.hid (KA.out.below hU.b KA.out.lt)
          clear hU
          have HNO := Lib.hid (fun q => hmay (by have := (q.2 k hkl).1; rw [HZ.out] at this; exact this) : ¬ heapOk l)
          go_wp2
          go_ret
          exact RetB.of (ret_i64 (by rw [← HR.out, if_neg HNO.out])) bU.out
      · obtain rfl : n = k := by omega
        have HOK : Hid (heapOk l) := Lib.hid ⟨by rw [LX.out]; omega, by rw [LX.out]; exact OK.out.2⟩
        go_wp2
        go_ret
        exact RetB.of (ret_i64 (by rw [← HR.out, if_pos HOK.out])) OK.out.1

end Go.Proofs.Ytjamoafihmcmeaa

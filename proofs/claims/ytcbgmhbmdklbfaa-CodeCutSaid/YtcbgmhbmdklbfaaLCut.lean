/-
  The walk of the law CodeCut of layer 4.
-/
import Derived.Test.YtcbgmhbmdklbfaaLUnits
import Derived.Test.YtcbgmhbmdklbfaaSlices
namespace Go.Proofs.Ytcbgmhbmdklbfaa
open Go.RowKit

theorem Try.sliceInfo : (Try.prog.info? 25).map (fun i => (i.zero, i.size, i.bytes)) = some (some (.slice none 0 0), 1, 24) := by kernel_rfl

/-- The relation of the outer loop: so many programs are cut. -/
def LCRel (more : List I3) (l : List (List I3)) (g c n B : Nat) (w : World) (t : Value) (wr : World) : Prop :=
  ∃ k : Nat, k ≤ n ∧ t = .int .i64 k ∧ OwnS 25 wr B (some ⟨g, 0, none⟩) c (cutK more l k) ∧ Below w.heap.size w wr
/-- The relation of the inner loop: no exit so far. -/
def LCRel2 (p : List I3) (m : Nat) (w : World) (t : Value) (wr : World) : Prop := ∃ k : Nat, k ≤ m ∧ t = .int .i64 k ∧ (∀ j, j < k → jO p j ≠ 9) ∧ Below w.heap.size w wr

set_option maxRecDepth 100000 in
set_option maxHeartbeats 2000000 in
theorem lcut_out (A B : Option Addr) (n c m d : Nat) (l : List (List I3)) (i : Int) (w : World) (hp : Prgs w A n l) (hm : m ≤ 9223372036854775807) (h : fewB l = false ∨ 40 < m ∨ i < 0 ∨ (n : Int) ≤ i) :
    Calls Try.prog 9 #[.slice A n c, .int .i64 i, .slice B m d] w (TrueAns w) := by
  have HP := Lib.hid hp
  have hn := hp.2.1
  have HH := Lib.hid h
  clear hp h
  go_enter Try.func9, Try.ntmps9
  go_wp2_with fail
  refine (live_any _).mono ?_
  rintro e w1 ⟨rfl, hb1⟩
  have HB1 := Lib.hid hb1
  clear hb1
  go_wp2_with fail
  refine (few_any A n c l _ (HP.out.below HB1.out)).mono ?_
  rintro e w2 ⟨rfl, rfl⟩
  by_cases hf : fewB l = true
  · rw [hf]
    have h2 : 40 < m ∨ i < 0 ∨ (n : Int) ≤ i := HH.out.resolve_left (by rw [hf]; simp)
    clear hf
    by_cases h3 : 40 < m
    · clear h2
      go_wp2
      go_ret
      exact ⟨rfl, HB1.out⟩
    · by_cases h4 : i < 0
      · clear h2
        go_wp2
        go_ret
        exact ⟨rfl, HB1.out⟩
      · have h5 : (n : Int) ≤ i := by omega
        clear h2
        go_wp2
        go_ret
        exact ⟨rfl, HB1.out⟩
  · rw [bool_no hf]
    clear hf
    go_wp2
    go_ret
    exact ⟨rfl, HB1.out⟩

set_option maxRecDepth 100000 in
set_option maxHeartbeats 2000000 in
theorem lcut_err (A B : Option Addr) (n c m d : Nat) (l : List (List I3)) (i : Nat) (e1 : Int) (w : World) (hp : Prgs w A n l) (hm : m ≤ 40) (hf : fewB l = true) (hi : i < n) (ht : tasksA l i = (0, e1)) (he : e1 = 1 ∨ e1 = 4 ∨ e1 = 9) :
    Calls Try.prog 9 #[.slice A n c, .int .i64 (i : Int), .slice B m d] w (TrueAns w) := by
  have HP := Lib.hid hp
  have hn := hp.2.1
  have HF := Lib.hid hf
  have HT := Lib.hid ht
  clear hp hf ht
  go_enter Try.func9, Try.ntmps9
  go_wp2_with fail
  refine (live_any _).mono ?_
  rintro e w1 ⟨rfl, hb1⟩
  have HB1 := Lib.hid hb1
  clear hb1
  go_wp2_with fail
  refine (few_any A n c l _ (HP.out.below HB1.out)).mono ?_
  rintro e w2 ⟨rfl, rfl⟩
  rw [HF.out]
  go_wp2_with fail
  refine (tasks_any A n c l i _ (HP.out.below HB1.out)).mono ?_
  rintro e w2 ⟨he2, hb2⟩
  rw [HT.out] at he2
  subst he2
  have HB2 := Lib.hid (below3 HB1.out hb2)
  clear hb2
  rcases he with rfl | rfl | rfl
  all_goals
    go_wp2
    go_ret
    exact ⟨rfl, HB2.out⟩

set_option maxRecDepth 100000 in
set_option maxHeartbeats 4000000 in
theorem lcut_ok (A B : Option Addr) (n c m d : Nat) (l : List (List I3)) (more : List I3) (i q : Nat) (w : World) (hp : Prgs w A n l) (hq : Prog w B m d more) (hm : m ≤ 40) (hf : fewB l = true) (hok : okL l) (hi : i < n) (ht : tot l i = some q) (hq2 : q ≤ 1099511627776) :
    Calls Try.prog 9 #[.slice A n c, .int .i64 (i : Int), .slice B m d] w (TrueAns w) := by
  have HP := Lib.hid hp
  have HQ := Lib.hid hq
  have HF := Lib.hid hf
  have HN := Lib.hid hp.1
  have HM := Lib.hid hq.1
  have HOK := Lib.hid hok
  have HT := Lib.hid (tasksA_ok hok (by rw [hp.1]; exact hi) ht hq2)
  have HTOT := Lib.hid ht
  have hn : n ≤ 16 := by have := hok.2.1; rw [hp.1] at this; exact this
  have hd0 : decide ((i : Int) < 0) = false := decide_eq_false (by omega)
  have hd1 : decide ((n : Int) ≤ (i : Int)) = false := decide_eq_false (by omega)
  have hd2 : decide (n ≤ i) = false := decide_eq_false (by omega)
  have hd3 : decide (40 < m) = false := decide_eq_false (by omega)
  have hd4 : decide ((40 : Int) < (m : Int)) = false := decide_eq_false (by omega)
  clear hp hq hf hok ht
  go_enter Try.func9, Try.ntmps9
  go_wp2_with fail
  refine (live_any _).mono ?_
  rintro e w1 ⟨rfl, hb1⟩
  have HB1 := Lib.hid hb1
  clear hb1
  go_wp2_with fail
  refine (few_any A n c l _ (HP.out.below HB1.out)).mono ?_
  rintro e w2 ⟨rfl, rfl⟩
  rw [HF.out]
  go_wp2_with fail
  refine (tasks_any A n c l i _ (HP.out.below HB1.out)).mono ?_
  rintro e w2 ⟨he2, hb2⟩
  rw [HT.out] at he2
  subst he2
  have HB2 := Lib.hid (below3 HB1.out hb2)
  clear hb2
  go_wp2_with (first
    | (at_builtin; refine wpList_copy_prgs _ rfl _ _ 22 rfl 25 Try.underlying22 Try.sliceInfo rfl A n c l rfl (HP.out.below HB2.out) (by omega) ?_
       intro A1 c1 w3 hown3 hb3
       have HO3 := Lib.hid (hown3.base HB2.out.size)
       have HB3 := Lib.hid (below3 HB2.out hb3)
       clear hown3 hb3))
  obtain ⟨g, rfl, hg1, hg2⟩ := HO3.out.form (by rw [HN.out]; omega)
  go_loopw [54] (fun t wr => LCRel more l g c1 n w.heap.size w t wr) (fun t _ => n - (intOf t).toNat)
  case atStart => exact ⟨0, Nat.zero_le _, rfl, by rw [cutK_zero]; exact HO3.out, HB3.out⟩
  case round =>
    rename World => wo
    obtain ⟨k, hk, rfl, hown, hb⟩ := hrel
    have HO := Lib.hid hown
    have HB := Lib.hid hb
    clear hown hb
    by_cases hlt : k < n
    · obtain ⟨b0, o0, D, r, s, rfl, hbl0, g00, hr⟩ := (HP.out.below HB.out).at_ hlt
      have HR := Lib.hid hr
      have HRL := Lib.hid hr.1
      have hrs := hr.2.1
      have hr32 : r ≤ 32 := by have := ((HOK.out.2.2 k (by rw [HN.out]; exact hlt)).1).2.1; rw [hr.1] at this; exact this
      have HKL : Hid (k < l.length) := Lib.hid (by rw [HN.out]; exact hlt)
      clear hr
      go_wp2
      go_loopw [61] (fun t w' => LCRel2 (pth l k) r wo t w') (fun t _ => r - (intOf t).toNat)
      case atStart => exact ⟨0, Nat.zero_le _, rfl, fun j hj => absurd hj (by omega), Below.refl _ _⟩
      case round =>
        rename World => wx
        obtain ⟨j, hj, rfl, hnx, hb2⟩ := hrel
        have HNX := Lib.hid hnx
        have HBX := Lib.hid hb2
        have HBW := Lib.hid (below3 HB.out hb2)
        clear hnx hb2
        by_cases hlt2 : j < r
        · obtain ⟨b1, o1, rfl, hbl, g0, g1, g2⟩ := (HR.out.below HBX.out).at_ hlt2
          by_cases h9 : jO (pth l k) j = 9
          · have h91 : (jO (pth l k) j == 9) = true := by simpa using h9
            have HCUT := Lib.hid (cut_exit (more := more) (by rw [HRL.out]; exact hlt2) HNX.out h9)
            have HBX2 := Lib.hid (HBX.out.alloc HBX.out.size (.cells #[.int .i64 (jO (pth l k) j), .int .i64 (jA (pth l k) j), .int .i64 (jB (pth l k) j)] 42))
            have HBW2 := Lib.hid (HBW.out.alloc HBW.out.size (.cells #[.int .i64 (jO (pth l k) j), .int .i64 (jA (pth l k) j), .int .i64 (jB (pth l k) j)] 42))
            have HTK := Lib.hid ((HR.out.below HBX2.out).take (k := j + 1) (by omega))
            have hj1 : (j : Int) + 1 ≤ (s : Int) := by omega
            have hj2 : (0 : Int) ≤ (j : Int) + 1 := by omega
            have HTL : Hid (((pth l k).take (j + 1)).length = j + 1) := Lib.hid (by rw [List.length_take, HRL.out]; omega)
            generalize hwy : wx.alloc (.cells #[.int .i64 (jO (pth l k) j), .int .i64 (jA (pth l k) j), .int .i64 (jB (pth l k) j)] 42) = wy at HBX2 HBW2 HTK
            have HWY := Lib.hid hwy
            clear h9 hwy
            go_wp2_with (first
              | (at_builtin; rw [HWY.out]; refine wpList_append_prog _ rfl _ _ 25 rfl 42 _ rfl Try.underlying25 Try.instrInfo wy.heap.size none 0 [] 0 rfl rfl (OwnP.nil_ _ _ _) (some ⟨b1, o1, none⟩) (j + 1) s _ rfl HTK.out (by simp; omega) (Nat.le_refl _) ?_
                 intro A4 c4 w4 hown4 hg4
                 have HO4 := Lib.hid hown4
                 have HB4 := Lib.hid ((Below.refl wy.heap.size wy).grown hg4 (Nat.le_refl _) (by simp [Value.ownBlock]))
                 clear hown4 hg4)
              | (at_builtin; refine wpList_append_prog _ rfl _ _ 25 rfl 42 _ rfl Try.underlying25 Try.instrInfo wy.heap.size A4 c4 ([] ++ (pth l k).take (j + 1)) _ (by simp) rfl HO4.out B m d more rfl (HQ.out.below (below3 HBW2.out HB4.out)) (by rw [List.nil_append, HTL.out]; omega) HB4.out.size ?_
                 intro A5 c5 w5 hown5 hg5
                 have HO5 := Lib.hid hown5
                 have HB5 := Lib.hid (HB4.out.grown hg5 HB4.out.size HO4.out.block)
                 have HO6 := Lib.hid (HO.out.below (below3 HBX2.out HB5.out))
                 obtain ⟨_, _, _, hcg, hfg, _⟩ := HO6.out.at_ (k := k) (by rw [cutK_len]; exact HKL.out)
                 clear hown5 hg5))
            have HP5 : Hid (Prog w5 A5 (min (j + 1) (pth l k).length + more.length) c5 (cutP more (pth l k))) := Lib.hid (by
              rw [HCUT.out]
              have := HO5.out.prog
              simpa using this)
            have HSET : Hid (OwnS 25 (w5.setCell ⟨g, k, none⟩ (.slice A5 (min (j + 1) (pth l k).length + more.length) c5)) w.heap.size (some ⟨g, 0, none⟩) c1 (cutK more l (k + 1))) := Lib.hid (by
              rw [← cutK_set more l (k := k) rfl]
              exact HO6.out.set_ (by rw [cutK_len]; exact HKL.out) HP5.out)
            have HB6 := Lib.hid ((below3 HBW2.out HB5.out).setCell (p := ⟨g, k, none⟩) hg1 (.slice A5 (min (j + 1) (pth l k).length + more.length) c5))
            go_roundw
            case rel => exact ⟨k + 1, by omega, by go_num, HSET.out, HB6.out⟩
            case measure => simp [intOf]; omega
          · have h91 : (jO (pth l k) j == 9) = false := by simpa using h9
            have HNX2 : Hid (∀ i, i < j + 1 → jO (pth l k) i ≠ 9) := Lib.hid (fun i hi => by
              rcases Nat.lt_or_ge i j with h | h
              · exact HNX.out i h
              · obtain rfl : i = j := by omega
                exact h9)
            have HBY := fun X => Lib.hid (HBX.out.alloc HBX.out.size X)
            clear h9
            go_wp2
            go_roundw
            case rel => exact ⟨j + 1, by omega, by go_num, HNX2.out, (HBY _).out⟩
            case measure => simp [intOf]; omega
        · have HCUT := Lib.hid (cutK_stays more l HKL.out (cut_none (fun i hi => HNX.out i (by rw [HRL.out] at hi; omega))))
          have HO7 := Lib.hid (HO.out.below HBX.out)
          go_wp2
          go_roundw
          case rel => exact ⟨k + 1, by omega, by go_num, by rw [← HCUT.out]; exact HO7.out, HBW.out⟩
          case measure => simp [intOf]; omega
    · obtain rfl : k = n := by omega
      have HC : Hid (cutK more l k = cutL more l) := Lib.hid (by rw [← HN.out]; exact cutK_all more l)
      have HCL : Hid ((cutL more l).length = k) := Lib.hid (by simp [cutL, HN.out])
      have HPO : Hid (Prgs wo (some ⟨g, 0, none⟩) k (cutL more l)) := Lib.hid (by have := HO.out.prgs; rw [HC.out, HCL.out] at this; exact this)
      clear hlt hk
      go_wp2_with fail
      refine (tasks_any _ k c1 (cutL more l) i _ HPO.out).mono ?_
      rintro e w4 ⟨he4, hb4⟩
      have HB4 := Lib.hid (below3 HB.out hb4)
      have HP4 := Lib.hid (HPO.out.below hb4)
      clear hb4
      by_cases hok2 : okL (cutL more l)
      · rw [tasksA_ok hok2 (by rw [HCL.out]; exact hi) (by rw [cut_tot]; exact HTOT.out) hq2] at he4
        subst he4
        obtain ⟨b0, o0, D, r, s, rfl, hbl0, g00, hr⟩ := (HP.out.below HB4.out).at_ hi
        have HR := Lib.hid hr
        have HU1 := Lib.hid (unitsA_ok (HOK.out.2.2 i (by rw [HN.out]; exact hi)).1)
        have HU2 : Hid (unitsA (pth (cutL more l) i) = (units (pth l i), 0)) := Lib.hid (by
          rw [unitsA_ok (hok2.2.2 i (by rw [HCL.out]; exact hi)).1, cutL_at, cut_units])
        clear hr hok2
        go_wp2_with fail
        refine (units_any D r s _ _ HR.out).mono ?_
        rintro e w5 ⟨he5, hb5⟩
        rw [HU1.out] at he5
        subst he5
        have HB5 := Lib.hid (below3 HB4.out hb5)
        obtain ⟨b2, o2, D2, r2, s2, e2, hbl2, g02, hr2⟩ := (HP4.out.below hb5).at_ hi
        injection e2 with e2
        injection e2 with e21 e22 _
        subst e21 e22
        rw [Nat.zero_add] at g02
        have HR2 := Lib.hid hr2
        clear hb5 hr2
        go_wp2_with fail
        refine (units_any D2 r2 s2 _ _ HR2.out).mono ?_
        rintro e w6 ⟨he6, hb6⟩
        rw [HU2.out] at he6
        subst he6
        have HB6 := Lib.hid (below3 HB5.out hb6)
        clear hb6
        go_wp2
        go_ret
        exact ⟨rfl, HB6.out⟩
      · rw [tasksA_no hok2] at he4
        subst he4
        have HE := Lib.hid (errL_no hok2)
        clear hok2
        go_wp2_with fail
        refine (checkAll_any _ k c1 (cutL more l) _ HP4.out).mono ?_
        rintro e w5 ⟨rfl, hb5⟩
        rw [HE.out]
        have HB5 := Lib.hid (below3 HB4.out hb5)
        clear hb5
        go_wp2
        go_ret
        exact ⟨rfl, HB5.out⟩

theorem lcut_any (A B : Option Addr) (n c m d : Nat) (l : List (List I3)) (i : Int) (more : List I3) (w : World) (hp : Prgs w A n l) (hq : Prog w B m d more) :
    Calls Try.prog 9 #[.slice A n c, .int .i64 i, .slice B m d] w (TrueAns w) := by
  by_cases h : fewB l = false ∨ 40 < m ∨ i < 0 ∨ (n : Int) ≤ i
  · exact lcut_out A B n c m d l i w hp (by have := hq.2.1; omega) h
  · have hf : fewB l = true := by cases hx : fewB l with
      | true => rfl
      | false => exact absurd (.inl hx) h
    obtain ⟨k, rfl⟩ : ∃ k : Nat, i = (k : Int) := ⟨i.toNat, by omega⟩
    have hk : k < n := by omega
    by_cases hok : okL l
    · cases ht : tot l k with
      | none => exact lcut_err A B n c m d l k 9 w hp (by omega) hf hk (tasksA_none hok (by rw [hp.1]; exact hk) ht) (by omega)
      | some q =>
        rcases Nat.lt_or_ge 1099511627776 q with hq2 | hq2
        · exact lcut_err A B n c m d l k 4 w hp (by omega) hf hk (tasksA_large hok (by rw [hp.1]; exact hk) ht hq2) (by omega)
        · exact lcut_ok A B n c m d l more k q w hp hq (by omega) hf hok hk ht hq2
    · exact lcut_err A B n c m d l k 1 w hp (by omega) hf hk (tasksA_no hok) (by omega)

end Go.Proofs.Ytcbgmhbmdklbfaa

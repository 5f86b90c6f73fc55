/-
  The walk of the law LifeTrace of layer 12.
-/
import Derived.Test.YtojaaoeflajdnaaDoorTki
namespace Go.Proofs.YtojaaoeflajdnaaDoor
open Go.RowKit

set_option maxHeartbeats 8000000 in
theorem ltrace_any (A : Option Addr) (n c : Nat) (l : List Int) (more : Int) (w : World) (hx : Ints w A n l) (hc : n ≤ c) (fm : Fit more) (hF : Fol w) : Calls Tryd.prog 7 #[.slice A n c, .int .i64 more] w (TrueAns w) := by
  have HX := Lib.hid hx
  have LX := Lib.hid hx.1
  have HC := Lib.hid hc
  have hnm := hx.2.1
  have HF := Lib.hid hF
  have FM := Lib.hid fm
  clear hF hx hc fm
  by_cases h1 : n < 1
  · have d1 : decide ((n : Int) < 1) = true := decide_eq_true (by omega)
    clear h1
    go_enter Tryd.func7, Tryd.ntmps7
    go_wp2_with fail
    refine (live_any _ HF.out).mono ?_
    rintro e w1 ⟨rfl, b1⟩
    have BB := Lib.hid b1
    clear b1
    go_wp2_with fail
    go_ret
    exact ⟨rfl, BB.out⟩
  · have d1 : decide ((n : Int) < 1) = false := decide_eq_false (by omega)
    by_cases h3 : 100 < n
    · have d3 : decide ((100 : Int) < (n : Int)) = true := decide_eq_true (by omega)
      clear h3 h1
      go_enter Tryd.func7, Tryd.ntmps7
      go_wp2_with fail
      refine (live_any _ HF.out).mono ?_
      rintro e w1 ⟨rfl, b1⟩
      have BB := Lib.hid b1
      clear b1
      go_wp2_with fail
      go_ret
      exact ⟨rfl, BB.out⟩
    · have d3 : decide ((100 : Int) < (n : Int)) = false := decide_eq_false (by omega)
      have HN := Lib.hid (show 1 ≤ n ∧ n ≤ 100 by omega)
      clear h3 h1
      by_cases hA : allB l = true
      · have HA := Lib.hid hA
        obtain ⟨y, hy, hyn, hya⟩ := trace_all (by rw [LX.out]; exact HN.out.1) hA
        have HT := Lib.hid (fun w (h : Ints w A n l) (f : Fol w) => hy ▸ trace_any A n c l w h HC.out f)
        have HYN := Lib.hid hyn
        have HYA := Lib.hid hya
        clear hA hy hyn hya
        go_enter Tryd.func7, Tryd.ntmps7
        go_wp2_with fail
        refine (live_any _ HF.out).mono ?_
        rintro e w1 ⟨rfl, b1⟩
        replace HF := Lib.hid (HF.out.le b1)
        replace HX := Lib.hid (HX.out.below b1)
        have BB := Lib.hid b1
        clear b1
        go_wp2_with fail
        refine (HT.out _ HX.out HF.out).mono ?_
        rintro e w2 ⟨rfl, rfl⟩
        go_wp2_with fail
        go_loopw [8] (fun t wr => wr = w1 ∧ ∃ k : Nat, 1 ≤ k ∧ k ≤ n + 1 ∧ t = .int .i64 k) (fun t _ => n + 1 - (intOf t).toNat)
        case atStart => exact ⟨rfl, 1, Nat.le_refl _, by omega, rfl⟩
        case round =>
          obtain ⟨rfl, k, hk1, hk, rfl⟩ := hrel
          by_cases hkn : k ≤ n
          · have ht := trace_any A k c (l.take k) wr (HX.out.take_ hkn) (Nat.le_trans hkn HC.out) HF.out
            rw [trace_take HA.out HYA.out hk1 (by rw [LX.out]; exact hkn)] at ht
            have HT2 := Lib.hid ht
            have hkc := Nat.le_trans hkn HC.out
            clear ht
            go_wp2_with fail
            refine HT2.out.mono ?_
            rintro e w2 ⟨rfl, rfl⟩
            go_wp2_with fail
            exact ⟨⟨trivial, k + 1, by omega, by omega, by go_num⟩, by simp [intOf]; omega⟩
          · obtain rfl : k = n + 1 := by omega
            clear hk1 hk hkn HT
            have XS := Lib.hid HX.out
            have BA := Lib.hid (Below.refl wr.heap.size wr)
            have FS := Lib.hid HF.out
            by_cases hm : stB more = true
            · by_cases hyl : y < n
              · have HR := Lib.hid (trace_short HA.out (by rw [LX.out]; exact HN.out.1) HYA.out hm (by rw [LX.out]; exact hyl))
                have hye : ((y : Int) == (y : Int)) = true := by simp
                have dy : decide ((y : Int) < (n : Int)) = true := decide_eq_true (by omega)
                clear hm
                go_wp2_with (first
                  | (at_builtin; refine wpList_append_ints _ rfl _ _ 35 rfl 3 Tryd.underlying35 infoIn wr.heap.size none 0 [] 0 rfl rfl (OwnI.nil_ _ _ _) A n c l rfl XS.out (by simp; omega) (by simp) ?_; intro A2 c2 w2 ho hgr; rw [List.nil_append] at ho ⊢; have HS2 := Lib.hid (below_app0 hgr).size; have O2 := Lib.hid (ho.below ((Below.refl w2.heap.size w2).alloc (Nat.le_refl _) (.cells #[.int .i64 more] 3))); have B2 := Lib.hid ((below_app0 hgr).alloc HS2.out (.cells #[.int .i64 more] 3)); have T2 := Lib.hid (ints1 w2 3 FM.out); clear ho hgr XS)
                  | (at_builtin; refine wpList_append_ints _ rfl _ _ 35 rfl 3 Tryd.underlying35 infoIn wr.heap.size A2 c2 l _ rfl rfl O2.out (some ⟨w2.heap.size, 0, none⟩) 1 1 [more] rfl T2.out (by have := LX.out; have := HN.out; omega) (by have := HS2.out; simp; omega) ?_; intro A3 c3 w3 ho hgr; have O3 := Lib.hid ho; have B3 := Lib.hid (below_app B2.out O2.out hgr B2.out.size); clear ho hgr T2 O2 B2))
                refine (trace_any A3 (l.length + 1) c3 (l ++ [more]) w3 (O3.out.intsN (by simp)) (by have := O3.out.cap.1; simpa using this) (HF.out.le B3.out)).mono ?_
                rw [HR.out]
                rintro e w4 ⟨rfl, rfl⟩
                go_wp2_with fail
                go_ret
                exact ⟨rfl, below3 BB.out B3.out⟩
              · obtain rfl : y = n := by have := HYN.out; have := LX.out; omega
                have hi : nth l 0 = 1 ∧ IsAt l l.length := by
                  rcases HYA.out with ⟨h, -⟩ | h
                  · have := HN.out; omega
                  · rw [LX.out]; exact h
                have hr := trace_full HA.out (by rw [LX.out]; exact HN.out.1) hi hm
                rw [LX.out] at hr
                have dy : decide ((y : Int) < (y : Int)) = false := decide_eq_false (by omega)
                obtain ⟨b, o, rfl, hb, hc⟩ := HX.out.2.2.2 (by have := HN.out; omega)
                obtain ⟨z, hz⟩ : ∃ z, nth l (y - 1) = z := ⟨_, rfl⟩
                rw [hz] at hr
                have hcz : wr.cell? ⟨b, o + (y - 1), none⟩ = some (.int .i64 z) := hz ▸ hc (y - 1) (by have := HN.out; omega)
                have HCZ := Lib.hid hcz
                have HB := Lib.hid hb
                clear hm hi hcz hc hb hz hyl
                by_cases hl : legB z more = true
                · rw [if_pos hl] at hr
                  have HR := Lib.hid hr
                  have HL := Lib.hid (show legB z more = true by simpa using hl)
                  clear hr hl
                  go_wp2_with (first
                    | (at_builtin; refine wpList_append_ints _ rfl _ _ 35 rfl 3 Tryd.underlying35 infoIn wr.heap.size none 0 [] 0 rfl rfl (OwnI.nil_ _ _ _) (some ⟨b, o, none⟩) y c l rfl XS.out (by simp; omega) (by simp) ?_; intro A2 c2 w2 ho hgr; rw [List.nil_append] at ho ⊢; have HS2 := Lib.hid (below_app0 hgr).size; have O2 := Lib.hid (ho.below ((Below.refl w2.heap.size w2).alloc (Nat.le_refl _) (.cells #[.int .i64 more] 3))); have B2 := Lib.hid ((below_app0 hgr).alloc HS2.out (.cells #[.int .i64 more] 3)); have T2 := Lib.hid (ints1 w2 3 FM.out); clear ho hgr XS)
                    | (at_builtin; refine wpList_append_ints _ rfl _ _ 35 rfl 3 Tryd.underlying35 infoIn wr.heap.size A2 c2 l _ rfl rfl O2.out (some ⟨w2.heap.size, 0, none⟩) 1 1 [more] rfl T2.out (by have := LX.out; have := HN.out; omega) (by have := HS2.out; simp; omega) ?_; intro A3 c3 w3 ho hgr; have O3 := Lib.hid ho; have B3 := Lib.hid (below_app B2.out O2.out hgr B2.out.size); clear ho hgr T2 O2 B2))
                  refine (trace_any A3 (l.length + 1) c3 (l ++ [more]) w3 (O3.out.intsN (by simp)) (by have := O3.out.cap.1; simpa using this) (HF.out.le B3.out)).mono ?_
                  rw [HR.out]
                  rintro e w4 ⟨rfl, rfl⟩
                  have cz : w3.cell? ⟨b, o + (y - 1), none⟩ = some (.int .i64 z) := (B3.out.cell (p := ⟨b, o + (y - 1), none⟩) HB.out).trans HCZ.out
                  have hwm : IntKind.i64.wrap ((y : Int) - 1) = ((y - 1 : Nat) : Int) := by rw [IntKind.wrap_i64]; have := HN.out; omega
                  have hy1 : y - 1 < y := by have := HN.out; omega
                  go_wp2_with fail
                  refine (leg_any z more w3 (HF.out.le B3.out)).mono ?_
                  rw [HL.out]
                  rintro e w4 ⟨rfl, rfl⟩
                  have e1 : ((y : Int) + 1 == (y : Int) + 1) = true := by simp
                  have e2 : decide ((y : Int) ≤ (y : Int) + 1) = true := decide_eq_true (by omega)
                  clear cz hwm hy1
                  go_wp2_with fail
                  go_ret
                  exact ⟨by simp [*], below3 BB.out B3.out⟩
                · rw [if_neg hl] at hr
                  have HR := Lib.hid hr
                  have HL := Lib.hid (show legB z more = false by simpa using hl)
                  clear hr hl
                  go_wp2_with (first
                    | (at_builtin; refine wpList_append_ints _ rfl _ _ 35 rfl 3 Tryd.underlying35 infoIn wr.heap.size none 0 [] 0 rfl rfl (OwnI.nil_ _ _ _) (some ⟨b, o, none⟩) y c l rfl XS.out (by simp; omega) (by simp) ?_; intro A2 c2 w2 ho hgr; rw [List.nil_append] at ho ⊢; have HS2 := Lib.hid (below_app0 hgr).size; have O2 := Lib.hid (ho.below ((Below.refl w2.heap.size w2).alloc (Nat.le_refl _) (.cells #[.int .i64 more] 3))); have B2 := Lib.hid ((below_app0 hgr).alloc HS2.out (.cells #[.int .i64 more] 3)); have T2 := Lib.hid (ints1 w2 3 FM.out); clear ho hgr XS)
                    | (at_builtin; refine wpList_append_ints _ rfl _ _ 35 rfl 3 Tryd.underlying35 infoIn wr.heap.size A2 c2 l _ rfl rfl O2.out (some ⟨w2.heap.size, 0, none⟩) 1 1 [more] rfl T2.out (by have := LX.out; have := HN.out; omega) (by have := HS2.out; simp; omega) ?_; intro A3 c3 w3 ho hgr; have O3 := Lib.hid ho; have B3 := Lib.hid (below_app B2.out O2.out hgr B2.out.size); clear ho hgr T2 O2 B2))
                  refine (trace_any A3 (l.length + 1) c3 (l ++ [more]) w3 (O3.out.intsN (by simp)) (by have := O3.out.cap.1; simpa using this) (HF.out.le B3.out)).mono ?_
                  rw [HR.out]
                  rintro e w4 ⟨rfl, rfl⟩
                  have cz : w3.cell? ⟨b, o + (y - 1), none⟩ = some (.int .i64 z) := (B3.out.cell (p := ⟨b, o + (y - 1), none⟩) HB.out).trans HCZ.out
                  have hwm : IntKind.i64.wrap ((y : Int) - 1) = ((y - 1 : Nat) : Int) := by rw [IntKind.wrap_i64]; have := HN.out; omega
                  have hy1 : y - 1 < y := by have := HN.out; omega
                  go_wp2_with fail
                  refine (leg_any z more w3 (HF.out.le B3.out)).mono ?_
                  rw [HL.out]
                  rintro e w4 ⟨rfl, rfl⟩
                  have e1 : ((y : Int) == (y : Int) + 1) = false := by simp; omega
                  have e2 : decide ((y : Int) ≤ (y : Int)) = true := decide_eq_true (by omega)
                  clear cz hwm hy1
                  go_wp2_with fail
                  go_ret
                  exact ⟨by simp [*], below3 BB.out B3.out⟩
            · have hm1 : stB more = false := by simpa using hm
              have HR := Lib.hid (trace_no (l := l) hm1)
              have hm2 : more < 1 ∨ (¬ more < 1 ∧ 7 < more) := by
                by_cases h1 : more < 1
                · exact .inl h1
                · refine .inr ⟨h1, ?_⟩
                  by_cases h7 : 7 < more
                  · exact h7
                  · exact absurd (stB_iff.2 ⟨by omega, by omega⟩) hm
              have HM2 := Lib.hid hm2
              clear hm hm1 hm2
              go_wp2_with (first
                | (at_builtin; refine wpList_append_ints _ rfl _ _ 35 rfl 3 Tryd.underlying35 infoIn wr.heap.size none 0 [] 0 rfl rfl (OwnI.nil_ _ _ _) A n c l rfl XS.out (by simp; omega) (by simp) ?_; intro A2 c2 w2 ho hgr; rw [List.nil_append] at ho ⊢; have HS2 := Lib.hid (below_app0 hgr).size; have O2 := Lib.hid (ho.below ((Below.refl w2.heap.size w2).alloc (Nat.le_refl _) (.cells #[.int .i64 more] 3))); have B2 := Lib.hid ((below_app0 hgr).alloc HS2.out (.cells #[.int .i64 more] 3)); have T2 := Lib.hid (ints1 w2 3 FM.out); clear ho hgr XS)
                | (at_builtin; refine wpList_append_ints _ rfl _ _ 35 rfl 3 Tryd.underlying35 infoIn wr.heap.size A2 c2 l _ rfl rfl O2.out (some ⟨w2.heap.size, 0, none⟩) 1 1 [more] rfl T2.out (by have := LX.out; have := HN.out; omega) (by have := HS2.out; simp; omega) ?_; intro A3 c3 w3 ho hgr; have O3 := Lib.hid ho; have B3 := Lib.hid (below_app B2.out O2.out hgr B2.out.size); clear ho hgr T2 O2 B2))
              refine (trace_any A3 (l.length + 1) c3 (l ++ [more]) w3 (O3.out.intsN (by simp)) (by have := O3.out.cap.1; simpa using this) (HF.out.le B3.out)).mono ?_
              rw [HR.out]
              rintro e w4 ⟨rfl, rfl⟩
              rcases HM2.out with h1 | ⟨h1, h7⟩
              · have dm : decide (more < 1) = true := decide_eq_true (by omega)
                clear h1
                go_wp2_with fail
                go_ret
                exact ⟨rfl, below3 BB.out B3.out⟩
              · have dm : decide (more < 1) = false := decide_eq_false (by omega)
                have d7 : decide (7 < more) = true := decide_eq_true (by omega)
                clear h1 h7
                go_wp2_with fail
                go_ret
                exact ⟨rfl, below3 BB.out B3.out⟩
      · have hA' : allB l = false := by simpa using hA
        have HT := Lib.hid (fun w (h : Ints w A n l) (f : Fol w) => traceR_1 (by have := LX.out; have := HN.out; omega) hA' ▸ trace_any A n c l w h HC.out f)
        clear hA hA'
        go_enter Tryd.func7, Tryd.ntmps7
        go_wp2_with fail
        refine (live_any _ HF.out).mono ?_
        rintro e w1 ⟨rfl, b1⟩
        replace HF := Lib.hid (HF.out.le b1)
        replace HX := Lib.hid (HX.out.below b1)
        have BB := Lib.hid b1
        clear b1
        go_wp2_with fail
        refine (HT.out _ HX.out HF.out).mono ?_
        rintro e w2 ⟨rfl, rfl⟩
        go_wp2_with fail
        go_ret
        exact ⟨rfl, BB.out⟩

end Go.Proofs.YtojaaoeflajdnaaDoor

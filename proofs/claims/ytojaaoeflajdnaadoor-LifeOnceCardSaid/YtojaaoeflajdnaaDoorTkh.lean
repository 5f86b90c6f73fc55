/-
  Layer 12: the document's Trace; the chapter's example comes to true.
-/
import Derived.Test.YtojaaoeflajdnaaDoorTkg
import Derived.StillTailTactics
namespace Go.Proofs.YtojaaoeflajdnaaDoor
open Go.RowKit

set_option maxHeartbeats 4000000 in
theorem rtrace_any (A : Option Addr) (n c : Nat) (l : List Int) (w : World) (hx : Ints w A n l) :
    Calls Tryd.prog 23 #[.slice A n c] w (RetB (.tuple #[.int .i64 (traceR l).1, .int .i64 (traceR l).2]) w) := by
  have HX := Lib.hid hx
  have LX := Lib.hid hx.1
  have hnm := hx.2.1
  clear hx
  by_cases h0 : n = 0
  · rw [traceR_0 (by rw [LX.out]; exact h0)]
    subst h0
    clear hnm
    go_enter Tryd.func23, Tryd.ntmps23
    go_wp2_with fail
    go_ret2
    exact ⟨rfl, Below.refl _ _⟩
  · have hl0 : ¬ l.length = 0 := by rw [LX.out]; exact h0
    have d0 : ((n : Int) == 0) = false := by simpa using h0
    obtain ⟨R, hR⟩ : ∃ R, traceR l = R := ⟨_, rfl⟩
    have R1 : Hid (allB l = false → R = (0, 1)) := Lib.hid (fun h => by rw [← hR]; exact traceR_1 hl0 h)
    have R2 : Hid (allB l = true → ¬ nth l 0 = 1 → R = (0, 0)) := Lib.hid (fun h k => by rw [← hR]; exact traceR_2 hl0 h k)
    have R3 : Hid (allB l = true → nth l 0 = 1 → ∀ k, IsAt l k → R = (((k : Nat) : Int), 0)) := Lib.hid (fun h m k hk => by rw [← hR]; exact traceR_3 hl0 h m hk)
    have HN : Hid (1 ≤ n) := Lib.hid (by omega)
    rw [hR]
    clear hR hl0 h0
    go_enter Tryd.func23, Tryd.ntmps23
    go_wp2_with fail
    go_loopw [12] (fun t wr => wr = w ∧ ∃ k : Nat, k ≤ n ∧ t = .int .i64 k ∧ Hid (∀ j, j < k → stB (nth l j) = true)) (fun t _ => n - (intOf t).toNat)
    case atStart => exact ⟨rfl, 0, Nat.zero_le _, rfl, Lib.hid (fun i hi => by omega)⟩
    case round =>
      obtain ⟨rfl, k, hk, rfl, OK⟩ := hrel
      by_cases hkn : k < n
      · obtain ⟨b, o, rfl, hb, c0⟩ := HX.out.at_ hkn
        have hkl : k < l.length := by rw [LX.out]; exact hkn
        obtain ⟨z1, hz⟩ : ∃ z1, nth l k = z1 := ⟨_, rfl⟩
        rw [hz] at c0
        have HC := Lib.hid (rst_any z1 wr)
        have HZ := Lib.hid hz
        clear hz
        go_wp2_with fail
        refine HC.out.mono ?_
        by_cases he : stB z1 = true
        · rw [he]
          rintro e w1 ⟨rfl, rfl⟩
          have OK2 : Hid (∀ j, j < k + 1 → stB (nth l j) = true) := Lib.hid (fun i hi => by
            by_cases e : i = k
            · subst e; rw [HZ.out]; exact he
            · exact OK.out i (by omega))
          clear he OK
          go_wp2_with fail
          go_roundw
          case rel => exact ⟨trivial, k + 1, by omega, by go_num, OK2⟩
          case measure => simp [intOf]; omega
        · have he' : stB z1 = false := by simpa using he
          rw [he']
          rintro e w1 ⟨rfl, rfl⟩
          have HH := Lib.hid (R1.out (allB_no hkl (by rw [HZ.out]; exact he')))
          clear he he'
          go_wp2_with fail
          go_ret2
          exact ⟨by rw [HH.out]; rfl, Below.refl _ _⟩
      · have HA : Hid (allB l = true) := Lib.hid (allB_iff.2 fun i hi => OK.out i (by have := LX.out; omega))
        have hkn2 : k = n := by omega
        subst hkn2
        clear hkn hk OK
        obtain ⟨b, o, rfl, hb, c0⟩ := HX.out.at_ (show 0 < k by have := HN.out; omega)
        obtain ⟨z0, hz0⟩ : ∃ z0, nth l 0 = z0 := ⟨_, rfl⟩
        rw [hz0, Nat.add_zero] at c0
        by_cases h1 : z0 = 1
        · subst h1
          have HR := Lib.hid (R3.out HA.out hz0)
          have hk1 := HN.out
          clear hz0 R1 R2 R3
          have BB := Lib.hid (Below.refl wr.heap.size wr)
          go_wp2_with fail
          clear hk1
          go_loopw [6] (fun t wi => ∃ j : Nat, 1 ≤ j ∧ j ≤ k ∧ t = .int .i64 j ∧ Hid (∀ i, i + 1 < j → legB (nth l i) (nth l (i + 1)) = true) ∧ Hid (Below wr.heap.size wr wi)) (fun t _ => k - (intOf t).toNat)
          case atStart => exact ⟨1, Nat.le_refl _, HN.out, rfl, Lib.hid (fun i hi => by omega), BB⟩
          case round =>
            rename World => wi
            obtain ⟨j, hj1, hj, rfl, OK, BI⟩ := hrel
            clear BB
            by_cases hjn : j < k
            · obtain ⟨m, hm⟩ : ∃ m, j = m + 1 := ⟨j - 1, by omega⟩
              have HM := Lib.hid hm
              have HXI := Lib.hid (HX.out.below BI.out)
              obtain ⟨b1, o1, e1, hb1, q0⟩ := HXI.out.at_ (show m < k by omega)
              obtain ⟨b2, o2, e2, hb2, q1⟩ := HXI.out.at_ hjn
              injection e1 with e1
              injection e1 with e1 e3
              injection e2 with e2
              injection e2 with e2 e4
              subst e1 e2 e3 e4
              obtain ⟨y, hy⟩ : ∃ y, nth l m = y := ⟨_, rfl⟩
              obtain ⟨z, hz⟩ : ∃ z, nth l j = z := ⟨_, rfl⟩
              rw [hy] at q0
              rw [hz] at q1
              have HL := Lib.hid (rleg_any y z wi.drew)
              have HY := Lib.hid hy
              have HZ := Lib.hid hz
              have BD := Lib.hid (BI.out.trans (Below.refl _ _).drew)
              have hwm : IntKind.i64.wrap ((j : Int) - 1) = m := by rw [IntKind.wrap_i64]; omega
              have hmk : m < k := by omega
              clear hy hz hj1 hj HXI hb1 c0 hb hm
              go_wp2_with fail
              go_still_tail 9, (by kernel_rfl)
              change wpList _ _ _ _ _ wi.drew
              go_wp2_with fail
              refine HL.out.mono ?_
              clear hwm hmk
              by_cases he : legB y z = true
              · rw [he]
                rintro e w1 ⟨rfl, rfl⟩
                have OK2 : Hid (∀ i, i + 1 < j + 1 → legB (nth l i) (nth l (i + 1)) = true) := Lib.hid (fun i hi => by
                  by_cases e : i = m
                  · subst e; rw [HY.out, ← HM.out, HZ.out]; exact he
                  · exact OK.out i (by have := HM.out; omega))
                clear he OK
                go_wp2_with fail
                go_roundw
                case rel => exact ⟨j + 1, by omega, by omega, by go_num, OK2, BD⟩
                case measure => simp [intOf]; omega
              · have he' : legB y z = false := by simpa using he
                rw [he']
                rintro e w1 ⟨rfl, rfl⟩
                have HH := Lib.hid (HR.out j ⟨by have := HM.out; omega, by rw [LX.out]; omega, OK.out, fun _ => by rw [show j - 1 = m by have := HM.out; omega, HY.out, HZ.out]; exact he'⟩)
                clear he he'
                go_wp2_with fail
                go_ret2
                exact ⟨by rw [HH.out]; rfl, BD.out⟩
            · obtain rfl : j = k := by omega
              have HH := Lib.hid (HR.out j ⟨hj1, by rw [LX.out]; exact Nat.le_refl _, OK.out, fun h => by have := LX.out; omega⟩)
              go_wp2_with fail
              go_ret2
              exact ⟨by rw [HH.out]; rfl, BI.out⟩
        · have HR := Lib.hid (R2.out HA.out (by rw [hz0]; exact h1))
          have d1 : (z0 == 1) = false := by simpa using h1
          have hk1 := HN.out
          clear hz0 h1
          go_wp2_with fail
          go_ret2
          exact ⟨by rw [HR.out]; rfl, Below.refl _ _⟩

theorem ints_of_bk {w : World} {g : Nat} {E : TypeId} {zs : List Int} (h : Bk w g E (zs.map (Value.int .i64)).toArray) (hf : ∀ z ∈ zs, Fit z) (hl : zs.length * 8 ≤ 140737488351232) : Ints w (some ⟨g, 0, none⟩) zs.length zs :=
  ⟨rfl, hl, hf, fun _ => ⟨g, 0, rfl, h.lt, fun j hj => by rw [h.cell (0 + j)]; simp [hj, nth, List.getD]⟩⟩
theorem live_ok : traceR [1, 2, 3, 1, 2, 7] = (6, 0) := by decide
theorem live_no : legB 3 2 = false := by decide

set_option maxHeartbeats 1000000 in
theorem live_any (w : World) (hF : Fol w) : Calls Tryd.prog 9 #[] w (RetB (.bool true) w) := by
  have bb := (Below.refl w.heap.size w).alloc (Nat.le_refl _) (.cells #[.int .i64 1, .int .i64 2, .int .i64 3, .int .i64 1, .int .i64 2, .int .i64 7] 3)
  have kb := Bk.new w 3 #[.int .i64 1, .int .i64 2, .int .i64 3, .int .i64 1, .int .i64 2, .int .i64 7]
  have ib := ints_of_bk (zs := [1, 2, 3, 1, 2, 7]) kb (by decide) (by decide)
  have hT := trace_any _ _ 6 _ _ ib (by decide) (hF.le bb)
  rw [live_ok] at hT
  have HL := Lib.hid (fun w (h : Fol w) => leg_any 3 2 w h)
  rw [live_no] at HL
  have HT := Lib.hid hT
  have BB := Lib.hid bb
  have HF := Lib.hid (hF.le bb)
  clear bb kb ib hT hF
  go_enter Tryd.func9, Tryd.ntmps9
  go_wp2_with fail
  refine HT.out.mono ?_
  rintro e w1 ⟨rfl, rfl⟩
  go_wp2_with fail
  refine (HL.out _ HF.out).mono ?_
  rintro e w1 ⟨rfl, rfl⟩
  go_wp2_with fail
  go_ret
  exact ⟨rfl, BB.out⟩

end Go.Proofs.YtojaaoeflajdnaaDoor

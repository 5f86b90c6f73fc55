/-
  Contracts of counter, that lays the closure's variables, and of Tasks of layer 4.
-/
import Derived.Test.YtcbgmhbmdklbfaaCnt
import Derived.Test.YtcbgmhbmdklbfaaAll
import Derived.Test.YtcbgmhbmdklbfaaUnits
import Derived.Deep.OwnRows
namespace Go.Proofs.Ytcbgmhbmdklbfaa
open Go.RowKit Go.Maps

theorem Try.intsInfo : (Try.prog.info? 2).map (fun i => (i.zero, i.size, i.bytes)) = some (some (.int .i64 0), 1, 8) := by kernel_rfl
attribute [local go_sem] run_store_func

/-- The closure is handed back, with all that it wants. -/
def CounterAns (N : Nat) (L : Option Addr) (cL : Nat) (w : World) (e : Ending) (w' : World) : Prop :=
  e = .returned (cntV w.heap.size) ∧ CS w N L cL (fun _ => false) 0 (List.replicate N 0) w'

/-- The numbers of a new row, all 0. -/
theorem zeros_row (w : World) {base N : Nat} (hb : base ≤ w.heap.size) (hN : N ≤ 16) :
    OwnI 2 (w.alloc (.cells (madeCells #[.int .i64 0] N) 2)) base (some ⟨w.heap.size, 0, none⟩) N (List.replicate N 0) := by
  refine OwnI.zeros (by omega) ?_
  have := World.ownsRow_lit (base := base) (e := 2) (size := 1) w (madeCells #[.int .i64 0] N) N hb (by unfold maxLen; omega) (by simp [size_madeCells])
  simpa [Value.cells] using this

theorem Bk.at_ {w : World} {g : Nat} (hg : g = w.heap.size) (t : TypeId) (cs : Array Value) : Bk (w.alloc (.cells cs t)) g t cs := hg ▸ Bk.new w t cs
theorem map_at {w : World} {g : Nat} (hg : g = w.heap.size) : (w.alloc (.map #[] 0)).ownsMap Try.prog 3 (unitElem (H := Unit)) g 0 (.map []) := hg ▸ World.ownsMap_made w _ _ _
theorem below1 (w : World) (o : Obj) : Below w.heap.size w (w.alloc o) := (Below.refl _ w).alloc (Nat.le_refl _) o

theorem counter_lies (w : World) (L : Option Addr) (N cL : Nat) (hN : N ≤ 16) (v1 v2 : Value) (w2 w3 w4 w5 w6 : World)
    (e2 : w2 = (w.alloc (.cells #[.slice L N cL] 22)).alloc (.cells (madeCells #[.int .i64 0] N) 2)) (e3 : w3 = w2.alloc (.cells #[v1] 50)) (hv1 : v1 = .slice (some ⟨w.heap.size + 1, 0, none⟩) N N)
    (e4 : w4 = w3.alloc (.map #[] 0)) (e5 : w5 = w4.alloc (.cells #[v2] 61)) (hv2 : v2 = .map (some (w.heap.size + 3))) (e6 : w6 = w5.alloc (.cells #[cntV w.heap.size] 48)) :
    CS w N L cL (fun _ => false) 0 (List.replicate N 0) w6 := by
  have s1 := size_alloc w (.cells #[.slice L N cL] 22)
  have s2 : w2.heap.size = w.heap.size + 2 := by rw [e2, size_alloc, s1]
  have s3 : w3.heap.size = w.heap.size + 3 := by rw [e3, size_alloc, s2]
  have s4 : w4.heap.size = w.heap.size + 4 := by rw [e4, size_alloc, s3]
  have s5 : w5.heap.size = w.heap.size + 5 := by rw [e5, size_alloc, s4]
  have b3 : Below w2.heap.size w2 w3 := e3 ▸ below1 w2 _
  have b4 : Below w3.heap.size w3 w4 := e4 ▸ below1 w3 _
  have b5 : Below w4.heap.size w4 w5 := e5 ▸ below1 w4 _
  have b6 : Below w5.heap.size w5 w6 := e6 ▸ below1 w5 _
  have c46 : Below w4.heap.size w4 w6 := below3 b5 b6
  have c36 : Below w3.heap.size w3 w6 := below3 b4 c46
  have c26 : Below w2.heap.size w2 w6 := below3 b3 c36
  have h0 := Bk.new w 22 #[.slice L N cL]
  have b2 : Below (w.alloc (.cells #[.slice L N cL] 22)).heap.size (w.alloc (.cells #[.slice L N cL] 22)) w2 := e2 ▸ below1 _ _
  have hr := zeros_row (w.alloc (.cells #[.slice L N cL] 22)) (base := w.heap.size) (N := N) (by rw [s1]; omega) hN
  rw [← e2, s1] at hr
  have k3 : Bk w3 (w.heap.size + 2) 50 #[v1] := e3 ▸ Bk.at_ s2.symm _ _
  have m4 : w4.ownsMap Try.prog 3 (unitElem (H := Unit)) (w.heap.size + 3) 0 (.map []) := e4 ▸ map_at s3.symm
  have k5 : Bk w5 (w.heap.size + 4) 61 #[v2] := e5 ▸ Bk.at_ s4.symm _ _
  have k6 : Bk w6 (w.heap.size + 5) 48 #[cntV w.heap.size] := e6 ▸ Bk.at_ s5.symm _ _
  subst hv1 hv2
  exact ⟨(h0.below b2 h0.lt).below c26 (by omega), hr.below c26, k3.below c36 k3.lt, ⟨_, m4.kept (row := none) ⟨c46.os, c46.tape, c46.output, c46.size, fun k hk _ => c46.block k hk⟩ (by simp), fun _ _ => rfl⟩,
    k5.below b6 k5.lt, k6, by simp, below3 (below1 w _) (below3 b2 c26)⟩

set_option maxHeartbeats 1000000 in
theorem counter_any (L : Option Addr) (N cL : Nat) (w : World) (hN : N ≤ 16) :
    Calls Try.prog 30 #[.slice L N cL] w (CounterAns N L cL w) := by
  have hmm := @run_makeMap Try.prog
  have hmk := fun W => run_make_row' (P := Try.prog) 50 2 (.int .i64 0) 8 Try.underlying50 Try.intsInfo rfl .i64 .i64 N (by omega) (by omega) W
  go_enter Try.func30, Try.ntmps30
  go_wp2
  go_ret
  exact ⟨rfl, counter_lies w L N cL hN _ _ _ _ _ _ _ rfl rfl rfl rfl rfl rfl rfl⟩

theorem known_zero (b : Nat) (l : List (List I3)) (N : Nat) : ∀ j, j < N → Known b l (nth (List.replicate N 0) j) j := fun j hj => .inl (by rw [nth_get (by simpa using hj)]; simp)

set_option maxHeartbeats 2000000 in
theorem tasks_any (L : Option Addr) (N cL : Nat) (l : List (List I3)) (i : Int) (w : World) (hL : Prgs w L N l) :
    Calls Try.prog 16 #[.slice L N cL, .int .i64 i] w (Ret2 (tasksA l i) w) := by
  have HL := Lib.hid hL
  have HN := Lib.hid hL.1
  have hn := hL.2.1
  clear hL
  by_cases hok : okL l
  · have HOK := Lib.hid hok
    have HE := Lib.hid (errL_ok hok)
    have hN : N ≤ 16 := by have := hok.2.1; rw [HN.out] at this; exact this
    clear hok
    by_cases hi : 0 ≤ i ∧ i < N
    · obtain ⟨hi0, hi1⟩ := hi
      obtain ⟨k, rfl⟩ : ∃ k : Nat, i = (k : Int) := ⟨i.toNat, by omega⟩
      have hk : k < N := by omega
      clear hi0 hi1
      go_enter Try.func16, Try.ntmps16
      go_wp2_with fail
      refine (checkAll_any L N cL l _ HL.out).mono ?_
      rintro e w1 ⟨rfl, hb1⟩
      rw [HE.out]
      have HB1 := Lib.hid hb1
      clear hb1
      go_wp2_with fail
      refine (counter_any L N cL _ hN).mono ?_
      rintro e w2 ⟨rfl, hs⟩
      have HS := Lib.hid hs
      clear hs
      unfold cntV
      go_wp2_with fail
      refine (count_any l w1 N L cL (HL.out.below HB1.out) HOK.out (N + 1) 0 (fun _ => false) _ k _ (by omega) (Nat.zero_le _) (fun j _ h => by cases h) (known_zero _ _ _) hk HS.out).mono ?_
      rintro e w3 (⟨f, c, ds', rfl, hc, hs3, hk3⟩ | ⟨rfl, hno, hb3⟩)
      · have HT : Hid (tot l k = some c) := Lib.hid (by
          have := cnt_fin (okL_closed HOK.out) (by rw [HN.out]; exact hk) hc
          exact this)
        have HB3 := Lib.hid (below3 HB1.out hs3.below)
        clear hc hs3 hk3
        by_cases hbig : 1099511627776 < c
        · have hsat : (satN 1099511627777 c : Int) = 1099511627777 := by unfold satN; omega
          have HA := Lib.hid (tasksA_large HOK.out (by rw [HN.out]; exact hk) HT.out hbig)
          rw [hsat]
          clear hsat
          go_wp2
          go_ret2
          exact Ret2.of HA.out rfl HB3.out
        · have hsat : (satN 1099511627777 c : Int) = (c : Int) := by unfold satN; omega
          have HA := Lib.hid (tasksA_ok HOK.out (by rw [HN.out]; exact hk) HT.out (by omega))
          rw [hsat]
          clear hsat
          go_wp2
          go_ret2
          exact Ret2.of HA.out rfl HB3.out
      · have HA := Lib.hid (tasksA_none HOK.out (by rw [HN.out]; exact hk) (hno _))
        have HB3 := Lib.hid (below3 HB1.out hb3)
        clear hno hb3
        go_wp2
        go_ret2
        exact Ret2.of HA.out rfl HB3.out
    · have HA := Lib.hid (tasksA_out (l := l) (i := i) (by rw [HN.out]; exact hi))
      by_cases hneg : i < 0
      all_goals
        have hbig : i < 0 ∨ (N : Int) ≤ i := by omega
        clear hi
        rcases hbig with hbig | hbig
        all_goals
          first
          | (exfalso; omega)
          | (go_enter Try.func16, Try.ntmps16
             go_wp2_with fail
             refine (checkAll_any L N cL l _ HL.out).mono ?_
             rintro e w1 ⟨rfl, hb1⟩
             rw [HE.out]
             have HB1 := Lib.hid hb1
             clear hb1
             go_wp2
             go_ret2
             exact Ret2.of HA.out rfl HB1.out)
  · have HE := Lib.hid (errL_no hok)
    have HA := Lib.hid (tasksA_no (i := i) hok)
    clear hok
    go_enter Try.func16, Try.ntmps16
    go_wp2_with fail
    refine (checkAll_any L N cL l _ HL.out).mono ?_
    rintro e w1 ⟨rfl, hb1⟩
    rw [HE.out]
    have HB1 := Lib.hid hb1
    clear hb1
    go_wp2
    go_ret2
    exact Ret2.of HA.out rfl HB1.out

end Go.Proofs.Ytcbgmhbmdklbfaa

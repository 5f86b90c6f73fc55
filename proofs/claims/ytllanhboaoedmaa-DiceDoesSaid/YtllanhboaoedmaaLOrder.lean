/-
  The walk of the law DiceOrder of layer 3: an order has each number once.
-/
import Derived.Test.YtllanhboaoedmaaLive
namespace Go.Proofs.Ytllanhboaoedmaa
open Go.RowKit

theorem Try.boolInfo : (Try.prog.info? 4).map (fun i => (i.zero, i.size, i.bytes)) = some (some (.bool false), 1, 1) := by kernel_rfl

/-- Which numbers were met in a list. -/
def marks (n : Nat) (l : List Int) : List Bool := (List.range n).map fun (j : Nat) => decide ((j : Int) ∈ l)

theorem marks_len (n : Nat) (l : List Int) : (marks n l).length = n := by simp [marks]
theorem marks_nil (n : Nat) : marks n [] = List.replicate n false := by
  refine List.ext_getElem (by simp [marks]) fun i h1 h2 => ?_
  simp [marks]
theorem marks_at {n : Nat} {l : List Int} {j : Nat} (hj : j < n) (h : (j : Int) ∉ l) : bth (marks n l) j = false := by
  rw [bth_get (by rw [marks_len]; exact hj)]
  simpa [marks] using h
theorem marks_set {n : Nat} {l : List Int} {j : Nat} : (marks n l).set j true = marks n (l ++ [(j : Int)]) := by
  refine List.ext_getElem (by simp [marks]) fun i h1 h2 => ?_
  rw [List.getElem_set]
  by_cases h : j = i
  · subst h; simp [marks]
  · rw [if_neg h]
    have h' : ¬ (i : Int) = (j : Int) := by omega
    simp [marks, h']
theorem take_next {l : List Int} {k : Nat} (h : k < l.length) : l.take (k + 1) = l.take k ++ [nth l k] := by
  rw [List.take_succ_eq_append_getElem h, nth_get h]
theorem fresh {l : List Int} (hd : l.Nodup) {k : Nat} (h : k < l.length) : nth l k ∉ l.take k := by
  intro hm
  obtain ⟨j, hj, he⟩ := List.mem_iff_getElem.1 hm
  rw [List.length_take] at hj
  rw [List.getElem_take, nth_get h] at he
  exact List.pairwise_iff_getElem.1 (List.nodup_iff_pairwise_ne.1 hd) j k (by omega) h (by omega) he

set_option maxRecDepth 100000 in
set_option maxHeartbeats 2000000 in
theorem lorder_big (A : Option Addr) (N c : Nat) (p m : Int) (w : World) (hN : N ≤ 9223372036854775807) (h : 1000 < N) :
    Calls Try.prog 4 #[.agg #[.slice A N c, .int .i64 p], .int .i64 m] w (TrueAns w) := by
  have k2 := Bk.new w 24 #[.slice A N c, .int .i64 p]
  have b0 := (Below.refl w.heap.size w).alloc (Nat.le_refl _) (.cells #[.slice A N c, .int .i64 p] 24)
  go_enter Try.func4, Try.ntmps4
  go_wp2_with fail
  refine (live_any _).mono ?_
  rintro e w1 ⟨rfl, hb1⟩
  have c0 := (k2.below hb1 k2.lt).c0
  have HB := Lib.hid (below3 b0 hb1)
  clear hb1 b0 k2
  go_wp2
  go_ret
  exact ⟨rfl, HB.out⟩

set_option maxRecDepth 100000 in
set_option maxHeartbeats 2000000 in
theorem lorder_no (A : Option Addr) (N c : Nat) (p m : Int) (w : World) (hN : N ≤ 1000) (h : ¬ (0 ≤ p ∧ p ≤ N ∧ 0 ≤ m ∧ m ≤ 256)) :
    Calls Try.prog 4 #[.agg #[.slice A N c, .int .i64 p], .int .i64 m] w (TrueAns w) := by
  have k2 := Bk.new w 24 #[.slice A N c, .int .i64 p]
  have b0 := (Below.refl w.heap.size w).alloc (Nat.le_refl _) (.cells #[.slice A N c, .int .i64 p] 24)
  have HH := Lib.hid h
  clear h
  go_enter Try.func4, Try.ntmps4
  go_wp2_with fail
  refine (live_any _).mono ?_
  rintro e w1 ⟨rfl, hb1⟩
  have k3 := k2.below hb1 k2.lt
  have c0 := k3.c0
  have c1 := k3.c1
  have HB := Lib.hid (below3 b0 hb1)
  have K3 := Lib.hid k3
  clear hb1 b0 k2 k3
  go_wp2_with fail
  refine (order_no A N c p m _ (by omega) HH.out).mono ?_
  rintro e w2 ⟨A1, c1', B1, d1, rfl, -, -, hb2⟩
  have k4 := (K3.out.below hb2 K3.out.lt).alloc (.cells #[.slice A1 0 c1', .int .i64 0] 24)
  have c02 := k4.c0
  have c12 := k4.c1
  have HB2 := Lib.hid (below_alloc (below3 HB.out hb2) (.cells #[.slice A1 0 c1', .int .i64 0] 24))
  clear hb2 c0 c1 k4
  by_cases h1 : m < 0
  · go_wp2
    go_ret
    exact ⟨rfl, HB2.out⟩
  · by_cases h2 : 256 < m
    · go_wp2
      go_ret
      exact ⟨rfl, HB2.out⟩
    · go_wp2_with fail
      refine (check_no A N c p _ (by have := HH.out; omega) (by omega)).mono ?_
      rintro e w3 ⟨rfl, hb3⟩
      have HB3 := Lib.hid (below3 HB2.out hb3)
      clear hb3
      go_wp2
      go_ret
      exact ⟨rfl, HB3.out⟩

/-- An order of n numbers, dice of N octets, no error are handed back, all in memory of the call's own. -/
def OrdN (l : List Int) (n : Nat) (bs : List Int) (N q : Nat) (w : World) (e : Ending) (w' : World) : Prop :=
  ∃ A c B d, e = .returned (.tuple #[.slice B n d, .agg #[.slice A N c, .int .i64 (q : Int)], .int .i64 0]) ∧ Ints w' B n l ∧ Octs w' A N bs ∧ Below w.heap.size w w'

theorem order_N (A : Option Addr) (N c p n : Nat) (bs : List Int) (w : World) (ho : Octs w A N bs) (hp : p ≤ N) (hn : n ≤ 256) :
    Calls Try.prog 12 #[.agg #[.slice A N c, .int .i64 (p : Int)], .int .i64 (n : Int)] w (OrdN (orderOf bs p n) n bs N (min (p + 2 * (n - 1)) N) w) := by
  refine (order_ok A N c p n bs w ho hp hn).mono ?_
  rintro e w' ⟨A1, c1, B1, d1, rfl, h1, h2, h3⟩
  refine ⟨A1, c1, B1, d1, by rw [order_len, ho.1], ?_, ?_, h3⟩
  · have := h1.ints
    rwa [order_len] at this
  · have := h2.octs
    rwa [ho.1] at this

set_option maxRecDepth 100000 in
set_option maxHeartbeats 2000000 in
theorem lorder_ok (A : Option Addr) (N c p n : Nat) (bs : List Int) (w : World) (ho : Octs w A N bs) (hN : N ≤ 1000) (hp : p ≤ N) (hn : n ≤ 256) :
    Calls Try.prog 4 #[.agg #[.slice A N c, .int .i64 (p : Int)], .int .i64 (n : Int)] w (TrueAns w) := by
  have k2 := Bk.new w 24 #[.slice A N c, .int .i64 (p : Int)]
  have b0 := (Below.refl w.heap.size w).alloc (Nat.le_refl _) (.cells #[.slice A N c, .int .i64 (p : Int)] 24)
  obtain ⟨i0, hi, hz0, hz1, hz2⟩ := info_parts Try.boolInfo
  have HI := Lib.hid hi
  have HZ := Lib.hid hz0
  have HS := Lib.hid hz1
  have HB := Lib.hid hz2
  have HO := Lib.hid ho
  clear hi hz0 hz1 hz2 ho
  go_enter Try.func4, Try.ntmps4
  go_wp2_with fail
  refine (live_any _).mono ?_
  rintro e w1 ⟨rfl, hb1⟩
  have k3 := k2.below hb1 k2.lt
  have c0 := k3.c0
  have c1 := k3.c1
  have B1 := Lib.hid (below3 b0 hb1)
  have K3 := Lib.hid k3
  clear hb1 b0 k2 k3
  go_wp2_with fail
  refine (order_N A N c p n bs _ (HO.out.below B1.out) hp hn).mono ?_
  rintro e w2 ⟨A1, c1', X1, d1, rfl, hl, hx, hb2⟩
  have ha := (Below.refl w2.heap.size w2).alloc (Nat.le_refl _) (.cells #[.slice A1 N c1', .int .i64 (min (p + 2 * (n - 1)) N : Nat)] 24)
  have K4 := Lib.hid ((K3.out.below hb2 K3.out.lt).alloc (.cells #[.slice A1 N c1', .int .i64 (min (p + 2 * (n - 1)) N : Nat)] 24))
  have X4 := Lib.hid (Bk.new w2 24 #[.slice A1 N c1', .int .i64 (min (p + 2 * (n - 1)) N : Nat)])
  have B4 := Lib.hid (below_alloc (below3 B1.out hb2) (.cells #[.slice A1 N c1', .int .i64 (min (p + 2 * (n - 1)) N : Nat)] 24))
  have L4 := Lib.hid (hl.below ha)
  have O4 := Lib.hid (hx.below ha)
  have HQ := Lib.hid (size_alloc w2 (.cells #[.slice A1 N c1', .int .i64 (min (p + 2 * (n - 1)) N : Nat)] 24))
  have ND := Lib.hid (order_nodup bs p n)
  have OM := Lib.hid (fun k => @order_mem bs p n (nth (orderOf bs p n) k))
  have OL := Lib.hid (order_len bs p n)
  clear hb2 hl hx ha c0 c1
  generalize orderOf bs p n = l at L4 ND OM OL
  go_wp2_with (at_make; refine wpList_make_full _ rfl _ _ 37 rfl (w2.heap.size + 1) 4 i0 (.bool false) 1 Try.underlying37 HI.out HZ.out HS.out .i64 .i64 _ _ n rfl rfl rfl rfl (by rw [HB.out]; omega) (by unfold maxLen; omega) (by simp) ?_; intro w5 hown hgrow; have HW := Lib.hid hown; have HG := Lib.hid hgrow; clear hown hgrow)
  generalize w2.alloc (.cells #[.slice A1 N c1', .int .i64 (min (p + 2 * (n - 1)) N : Nat)] 24) = W2 at K4 X4 B4 L4 O4 HQ HW HG
  generalize w2.heap.size = X at X4 HQ HW ⊢
  have M0 : Hid (OwnB 4 w5 (X + 1) (some ⟨X + 1, 0, none⟩) n (marks n (l.take 0)) ∧ Below (X + 1) W2 w5) := by
    refine Lib.hid ⟨?_, (Below.refl _ _).grown HG.out (by rw [HQ.out]; exact Nat.le_refl _) (by simp)⟩
    have h1 := HW.out
    rw [HQ.out] at h1
    rw [List.take_zero, marks_nil]
    exact OwnB.falses h1
  have HOw := Lib.hid (HO.out.below B4.out)
  clear HW HG HI HZ HS HB K3 B1
  go_loopw [51] (fun t wr => ∃ k : Nat, k ≤ n ∧ t = .int .i64 k ∧ Hid (OwnB 4 wr (X + 1) (some ⟨X + 1, 0, none⟩) n (marks n (l.take k)) ∧ Below (X + 1) W2 wr)) (fun t _ => n - (intOf t).toNat)
  case atStart => exact ⟨0, Nat.zero_le _, rfl, M0⟩
  case round =>
    clear M0
    obtain ⟨k, hk, rfl, S⟩ := hrel
    have hbw : Below W2.heap.size W2 wr := by rw [HQ.out]; exact S.out.2
    by_cases hlt : k < n
    · have hkl : k < l.length := by rw [OL.out]; exact hlt
      obtain ⟨-, -, -, hc⟩ := L4.out.below hbw
      obtain ⟨bb, o, rfl, -, hcell⟩ := hc (by omega)
      have c1 := hcell k hlt
      have hx := OM.out k (by rw [nth_get hkl]; exact List.getElem_mem _)
      obtain ⟨j, hj⟩ : ∃ j : Nat, nth l k = (j : Int) := ⟨(nth l k).toNat, by omega⟩
      have hjn : j < n := by omega
      have hfr := fresh ND.out hkl
      rw [hj] at c1 hfr
      obtain ⟨c2, f2⟩ := S.out.1.at_ (j := j) (by rw [marks_len]; exact hjn)
      rw [marks_at hjn hfr] at c2
      have hE : Hid (OwnB 4 (wr.setCell ⟨X + 1, j, none⟩ (.bool true)) (X + 1) (some ⟨X + 1, 0, none⟩) n (marks n (l.take (k + 1))) ∧ Below (X + 1) W2 (wr.setCell ⟨X + 1, j, none⟩ (.bool true))) := by
        refine Lib.hid ⟨?_, S.out.2.setCell (Nat.le_refl _) _⟩
        rw [take_next hkl, hj, ← marks_set]
        exact S.out.1.set_ j true
      have hj0 : (0 : Int) ≤ (j : Int) := by omega
      have hj1 : (j : Int) < (n : Int) := by omega
      clear hcell hc hx hj hfr hbw hkl S
      go_wp2
      go_roundw
      case rel => exact ⟨k + 1, by omega, by go_num, hE⟩
      case measure => simp [intOf]; omega
    · obtain rfl : k = n := by omega
      have kx := X4.out.below hbw X4.out.lt
      have kd := K4.out.below hbw K4.out.lt
      have x0 := kx.c0
      have x1 := kx.c1
      have d0 := kd.c0
      have d1' := kd.c1
      have h1 := (O4.out.below hbw).convert (P := Try.prog) c1' 22 5 9 Try.underlying22 Try.underlying5 Try.underlying9
      have h2 := (HOw.out.below hbw).convert (P := Try.prog) c 22 5 9 Try.underlying22 Try.underlying5 Try.underlying9
      have HB := Lib.hid (B4.out.trans (hbw.mono B4.out.size))
      clear kx kd hbw S
      go_wp2
      go_ret
      exact ⟨rfl, HB.out⟩

theorem lorder_any (A : Option Addr) (N c : Nat) (p m : Int) (bs : List Int) (w : World) (hm : N ≤ 9223372036854775807) (ho : N ≤ 140737488351232 → Octs w A N bs) :
    Calls Try.prog 4 #[.agg #[.slice A N c, .int .i64 p], .int .i64 m] w (TrueAns w) := by
  by_cases hN : 1000 < N
  · exact lorder_big A N c p m w hm hN
  · by_cases h : 0 ≤ p ∧ p ≤ N ∧ 0 ≤ m ∧ m ≤ 256
    · obtain ⟨h0, h1, h2, h3⟩ := h
      obtain ⟨p, rfl⟩ := Int.eq_ofNat_of_zero_le h0
      obtain ⟨m, rfl⟩ := Int.eq_ofNat_of_zero_le h2
      exact lorder_ok A N c p m bs w (ho (by omega)) (by omega) (by omega) (by omega)
    · exact lorder_no A N c p m w (by omega) h

end Go.Proofs.Ytllanhboaoedmaa

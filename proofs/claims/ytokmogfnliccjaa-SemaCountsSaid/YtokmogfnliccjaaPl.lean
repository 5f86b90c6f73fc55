/-
  Layer 10, the program: slices.IndexFunc, slices.DeleteFunc where who leaves is in the line; leave, join, next.
-/
import Derived.Test.YtokmogfnliccjaaPm
import Derived.Lib.SliceRun
namespace Go.Proofs.Ytokmogfnliccjaa
open Go.RowKit

theorem pis_any (y x : Int) (gb : Nat) (w : World) (hc : w.cell? ⟨gb, 0, none⟩ = some (.int .i64 x)) (hlt : gb < w.heap.size) :
    Calls Try.prog 38 #[.int .i64 y, .pointer (some ⟨gb, 0, none⟩)] w (RetB (.bool (decide (y = x))) w) := by
  have := hlt; clear this
  have HE := Lib.hid (show (y == x) = decide (y = x) from rfl)
  go_enter Try.func38, Try.ntmps38
  go_wp2_with fail
  go_ret
  exact ⟨by simp; exact HE.out, Below.refl _ _⟩

/-- Where a number of a list is first. -/
def FirstAt (l : List Int) (x : Int) (k : Nat) : Prop := k < l.length ∧ nth l k = x ∧ ∀ j, j < k → nth l j ≠ x

set_option maxHeartbeats 1000000 in
theorem pidx_any (A : Option Addr) (n c : Nat) (l : List Int) (x : Int) (gb : Nat) (w : World) (hx : Ints w A n l) (hk : Bk w gb 2 #[.int .i64 x]) (hm : x ∈ l) :
    Calls Try.prog 39 #[.slice A n c, .func (.func 38) #[] #[.pointer (some ⟨gb, 0, none⟩)]] w
      (fun e w' => ∃ k : Nat, e = .returned (.int .i64 (k : Int)) ∧ FirstAt l x k ∧ Below w.heap.size w w') := by
  have HX := Lib.hid hx
  have LX := Lib.hid hx.1
  have HK := Lib.hid hk
  have HM := Lib.hid hm
  have hnc := hx.2.1
  clear hx hk hm
  go_enter Try.func39, Try.ntmps39
  go_wp2_with fail
  go_loopw [8] (fun t wr => ∃ k : Nat, k ≤ n ∧ t = .int .i64 k ∧ Hid (Below w.heap.size w wr ∧ ∀ j, j < k → nth l j ≠ x)) (fun t _ => n - (intOf t).toNat)
  case atStart => exact ⟨0, Nat.zero_le _, rfl, Lib.hid ⟨Below.refl _ _, fun i hi => by omega⟩⟩
  case round =>
    rename World => wr
    obtain ⟨k, hk, rfl, OK⟩ := hrel
    by_cases hkn : k < n
    · obtain ⟨b, o, rfl, hb, c0⟩ := (HX.out.below OK.out.1).at_ hkn
      have hkl : k < l.length := by rw [LX.out]; exact hkn
      obtain ⟨z1, hz⟩ : ∃ z1, nth l k = z1 := ⟨_, rfl⟩
      rw [hz] at c0
      have kb := HK.out.below OK.out.1 HK.out.lt
      have HC := Lib.hid (pis_any z1 x gb wr kb.one kb.lt)
      have HZ := Lib.hid hz
      clear hz kb
      go_wp2_with fail
      refine HC.out.mono ?_
      by_cases he : z1 = x
      · rw [decide_eq_true he]
        rintro e w1 ⟨rfl, b1⟩
        have HH : Hid (FirstAt l x k ∧ Below w.heap.size w w1) := Lib.hid ⟨⟨hkl, by rw [HZ.out]; exact he, OK.out.2⟩, below3 OK.out.1 b1⟩
        clear he b1
        go_wp2_with fail
        go_ret
        exact ⟨k, rfl, HH.out.1, HH.out.2⟩
      · rw [decide_eq_false he]
        rintro e w1 ⟨rfl, b1⟩
        have OK2 : Hid (Below w.heap.size w w1 ∧ ∀ j, j < k + 1 → nth l j ≠ x) := Lib.hid ⟨below3 OK.out.1 b1, fun i hi => by
          by_cases e : i = k
          · subst e; rw [HZ.out]; exact he
          · exact OK.out.2 i (by omega)⟩
        clear he OK b1
        go_wp2_with fail
        go_roundw
        case rel => exact ⟨k + 1, by omega, by go_num, OK2⟩
        case measure => simp [intOf]; omega
    · obtain ⟨j, hj, e⟩ := mem_nth.1 HM.out
      exact absurd e (OK.out.2 j (by have := LX.out; omega))

/-- What DeleteFunc's row holds between two rounds: those that stay, and behind j all as before. -/
structure DelI (l : List Int) (x : Int) (i j : Nat) (dk : List Int) : Prop where
  len : dk.length = l.length
  lt : i < j
  le : j ≤ l.length
  kept : dk.take i = wo (l.take j) x
  high : ∀ t, j ≤ t → nth dk t = nth l t
theorem wo_none : ∀ {l : List Int} {x : Int}, x ∉ l → wo l x = l := fun {l x} h => by
  unfold wo
  rw [List.filter_eq_self]
  intro y hy
  simp
  rintro rfl
  exact h hy
theorem DelI.start {l : List Int} {x : Int} {k : Nat} (h : FirstAt l x k) : DelI l x k (k + 1) l := by
  refine ⟨rfl, Nat.lt_succ_self _, h.1, ?_, fun _ _ => rfl⟩
  rw [wo_next h.1, if_pos h.2.1, wo_none]
  intro hm
  obtain ⟨j, hj, e⟩ := mem_nth.1 hm
  rw [List.length_take] at hj
  have hjk : j < k := by omega
  have hk := h.1
  have e2 : nth l j = nth (l.take k) j := by rw [nth_get (show j < l.length by omega), nth_get (show j < (l.take k).length by rw [List.length_take]; omega), List.getElem_take]
  exact h.2.2 j hjk (e2.trans e)
theorem DelI.skip {l dk : List Int} {x : Int} {i j : Nat} (h : DelI l x i j dk) (hj : j < l.length) (he : nth l j = x) : DelI l x i (j + 1) dk :=
  ⟨h.len, by have := h.lt; omega, hj, by rw [wo_next hj, if_pos he]; exact h.kept, fun t ht => h.high t (by omega)⟩
theorem DelI.keep {l dk : List Int} {x : Int} {i j : Nat} (h : DelI l x i j dk) (hj : j < l.length) (he : nth l j ≠ x) : DelI l x (i + 1) (j + 1) (dk.set i (nth l j)) := by
  have hi : i < dk.length := by have := h.lt; have := h.len; omega
  refine ⟨by simpa using h.len, by have := h.lt; omega, hj, ?_, fun t ht => ?_⟩
  · rw [wo_next hj, if_neg he, ← h.kept]
    rw [List.take_add_one]
    simp [hi, List.take_set_of_le]
  · by_cases htl : t < dk.length
    · rw [nth_set _ _ _ _ htl, if_neg (by have := h.lt; omega)]
      exact h.high t (by omega)
    · rw [nth_beyond (by simpa using Nat.le_of_not_lt htl), nth_beyond (by have := h.len; omega)]
theorem DelI.done {l dk : List Int} {x : Int} {i j : Nat} (h : DelI l x i j dk) (hj : l.length ≤ j) : dk.take i = wo l x ∧ i = (wo l x).length := by
  have hk := h.kept
  rw [List.take_of_length_le hj] at hk
  refine ⟨hk, ?_⟩
  rw [← hk, List.length_take]
  have := h.lt
  have := h.le
  have := h.len
  omega

set_option maxHeartbeats 4000000 in
theorem pdel_any (ga n c gb base : Nat) (l : List Int) (x : Int) (w : World) (ho : OwnI 2 w base (some ⟨ga, 0, none⟩) c l) (hn : l.length = n) (hk : Bk w gb 2 #[.int .i64 x]) (hne : ga ≠ gb) (hm : x ∈ l) :
    Calls Try.prog 37 #[.slice (some ⟨ga, 0, none⟩) n c, .func (.func 38) #[] #[.pointer (some ⟨gb, 0, none⟩)]] w
      (fun e w' => e = .returned (.slice (some ⟨ga, 0, none⟩) (wo l x).length c) ∧ OwnI 2 w' base (some ⟨ga, 0, none⟩) c (wo l x) ∧ w.grownBy w' (some ga)) := by
  have HX := Lib.hid (ho.intsN hn)
  have HO := Lib.hid ho
  have LX := Lib.hid hn
  have HK := Lib.hid hk
  have HM := Lib.hid hm
  have HNE := Lib.hid hne
  have hcap := ho.cap
  rw [hn] at hcap
  clear ho hk hm hn hne
  obtain ⟨qn, hqn⟩ : ∃ qn, (wo l x).length = qn := ⟨_, rfl⟩
  rw [hqn]
  have HQN := Lib.hid hqn
  clear hqn
  go_enter Try.func37, Try.ntmps37
  go_wp2_with fail
  refine (pidx_any (some ⟨ga, 0, none⟩) n c l x gb _ HX.out HK.out HM.out).mono ?_
  rintro e w1 ⟨k0, rfl, hf, b1⟩
  have hk0 : k0 < n := by rw [← LX.out]; exact hf.1
  have O1 := Lib.hid (HO.out.below b1)
  have K1 := Lib.hid (HK.out.below b1 HK.out.lt)
  have HF := Lib.hid hf
  have G1 : Hid (w.grownBy w1 (some ga)) := Lib.hid ⟨b1.os, b1.tape, b1.output, b1.size, fun k hk _ => b1.block k hk⟩
  have t0 : ((k0 : Int) == -1) = false := by simp <;> omega
  clear b1 hf HX HO HK
  have I0 := Lib.hid (DelI.start HF.out)
  go_wp2_with fail
  go_loopw [5, 6] (fun u5 u6 wr => ∃ (i j : Nat) (dk : List Int), u5 = .int .i64 i ∧ u6 = .int .i64 j ∧ j ≤ n ∧ i < j ∧ Hid (DelI l x i j dk) ∧ Hid (OwnI 2 wr base (some ⟨ga, 0, none⟩) c dk) ∧ Hid (w.grownBy wr (some ga)) ∧ Hid (Bk wr gb 2 #[.int .i64 x])) (fun _ u6 _ => n - (intOf u6).toNat)
  case atStart => exact ⟨k0, k0 + 1, l, rfl, by go_num, by omega, by omega, I0, O1, G1, K1⟩
  case round =>
    clear I0 O1 G1 K1
    rename World => wr
    obtain ⟨i, j, dk, rfl, rfl, hj, hij, DI, OD, GW, KW⟩ := hrel
    by_cases hjn : j < n
    · have hdl : dk.length = n := by rw [DI.out.len]; exact LX.out
      obtain ⟨b, o, e, hb, c0⟩ := (OD.out.intsN hdl).at_ hjn
      injection e with e
      injection e with e1 e2 _
      subst e1 e2
      rw [Nat.zero_add, DI.out.high j (Nat.le_refl _)] at c0
      have hjl : j < l.length := by rw [LX.out]; exact hjn
      obtain ⟨ci, fi⟩ := OD.out.at_ (j := i) (by rw [hdl]; omega)
      have fz : Fit (nth l j) := by have := (OD.out.intsN hdl).fit hjn; rwa [DI.out.high j (Nat.le_refl _)] at this
      obtain ⟨y, hy⟩ : ∃ y, nth l j = y := ⟨_, rfl⟩
      obtain ⟨old, hold⟩ : ∃ old, nth dk i = old := ⟨_, rfl⟩
      rw [hy] at c0 fz
      rw [hold] at ci
      have HY := Lib.hid hy
      have FZ := Lib.hid fz
      have hkc := KW.out.one
      have hkl := KW.out.lt
      have HC := Lib.hid (pis_any y x gb wr hkc hkl)
      clear hy hold hdl fz hkc hkl
      by_cases he : y = x
      · rw [decide_eq_true he] at HC
        have DN := Lib.hid (DI.out.skip hjl (by rw [HY.out]; exact he))
        clear he ci fi
        go_wp2_with fail
        refine HC.out.mono ?_
        rintro e w2 ⟨rfl, b2⟩
        have O2 := Lib.hid (OD.out.below b2)
        have K2 := Lib.hid (KW.out.below b2 KW.out.lt)
        have G2 := Lib.hid (GW.out.trans (show wr.grownBy w2 (some ga) from ⟨b2.os, b2.tape, b2.output, b2.size, fun k hk _ => b2.block k hk⟩))
        clear b2 c0 hb HC
        go_wp2_with fail
        go_roundw
        case rel => exact ⟨i, j + 1, dk, rfl, by go_num, by omega, by omega, DN, O2, G2, K2⟩
        case measure => simp [intOf]; omega
      · rw [decide_eq_false he] at HC
        have DN := Lib.hid (DI.out.keep hjl (by rw [HY.out]; exact he))
        rw [HY.out] at DN
        clear he
        go_wp2_with fail
        refine HC.out.mono ?_
        rintro e w2 ⟨rfl, b2⟩
        have ci2 := (b2.cell (p := ⟨ga, i, none⟩) hb).trans ci
        have fi2 := (b2.frozen (p := ⟨ga, i, none⟩) hb).trans fi
        have hb2 := Nat.lt_of_lt_of_le hb b2.size
        have O2 := Lib.hid ((OD.out.below b2).set_ i FZ.out)
        have K2 := Lib.hid ((KW.out.below b2 KW.out.lt).far (p := ⟨ga, i, none⟩) (fun q => HNE.out q.symm) (.int .i64 y))
        have G2 := Lib.hid ((GW.out.trans (show wr.grownBy w2 (some ga) from ⟨b2.os, b2.tape, b2.output, b2.size, fun k hk _ => b2.block k hk⟩)).trans (grown_set (g := ga) (i := i) (.int .i64 y)))
        clear b2 c0 hb HC ci fi
        go_wp2_with fail
        go_roundw
        case rel => exact ⟨i + 1, j + 1, dk.set i y, by go_num, by go_num, by omega, by omega, DN, O2, G2, K2⟩
        case measure => simp [intOf]; omega
    · have hjn' : j = n := by omega
      have hdl : dk.length = n := by rw [DI.out.len]; exact LX.out
      obtain ⟨hd1, hd2⟩ := DI.out.done (by rw [LX.out]; omega)
      have hin : i < n := by omega
      have hcl : ∀ ty, (Builtin.clear_ #[22] ty #[.slice (some ⟨ga, i, none⟩) (n - i) (c - i)]).run Try.prog wr = .ok (.tuple #[]) (wr.setCells ga i (List.replicate (n - i) (.int .i64 0))) :=
        fun ty => Lib.run_clear_slice wr _ 2 ty _ Try.underlying22 (fun w => by kernel_rfl) rfl rfl ga i _ _ (by omega) (fun t ht => by rw [(OD.out.at_ (j := i + t) (by rw [hdl]; omega)).1]; rfl) (fun t ht => (OD.out.at_ (j := i + t) (by rw [hdl]; omega)).2)
      have OF := Lib.hid (OwnI.setOut (List.replicate (n - i) (Value.int .i64 0)) i wr (by rw [List.length_take]; omega) (OD.out.short (k := i) (by rw [hdl]; omega) (by simp)))
      have GF := Lib.hid (GW.out.trans (grown_setCells wr ga i (List.replicate (n - i) (Value.int .i64 0))))
      rw [hd1] at OF
      have hic : i < c := by omega
      have HD := Lib.hid (hd2.trans HQN.out)
      clear hd1 hd2 hdl hjn' DI OD GW KW
      go_wp2_with fail
      go_ret
      have e := HD.out
      subst e
      exact ⟨rfl, OF.out, GF.out⟩

end Go.Proofs.Ytokmogfnliccjaa

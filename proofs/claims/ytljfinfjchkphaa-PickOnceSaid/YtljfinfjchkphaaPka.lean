/-
  Layer 16, the program: its closures, slices.IndexFunc, slices.ContainsFunc and slices.DeleteFunc over them.
-/
import Derived.Test.YtljfinfjchkphaaPkw
import Derived.Lib.SliceRun
import Derived.Deep.LoopGhost
import Derived.Deep.CutBlock
namespace Go.Proofs.Ytljfinfjchkphaa
open Go.RowKit

theorem isme_pk (y x : Int) (gb : Nat) (w : World) (hc : w.cell? ⟨gb, 0, none⟩ = some (.int .i64 x)) (hlt : gb < w.heap.size) :
    Calls Try.prog 23 #[.int .i64 y, .pointer (some ⟨gb, 0, none⟩)] w (RetB (.bool (decide (y = x))) w) := by
  have := hlt; clear this
  have HE := Lib.hid (show (y == x) = decide (y = x) from rfl)
  go_enter Try.func23, Try.ntmps23
  go_wp2_with fail
  go_ret
  exact ⟨by simp; exact HE.out, Below.refl _ _⟩

theorem isneg_pk (y : Int) (w : World) :
    Calls Try.prog 27 #[.int .i64 y] w (RetB (.bool (decide (y < 0))) w) := by
  go_enter Try.func27, Try.ntmps27
  go_wp2_with fail
  go_ret
  exact ⟨by simp, Below.refl _ _⟩

theorem ishas_pk (y : Int) (A : Option Addr) (n c : Nat) (hs : List Int) (gb : Nat) (w : World) (hc : w.cell? ⟨gb, 0, none⟩ = some (.slice A n c)) (_ : gb < w.heap.size) (hx : Ints w A n hs) (h0 : 0 ≤ y) (h1 : y < n) :
    Calls Try.prog 29 #[.int .i64 y, .pointer (some ⟨gb, 0, none⟩)] w (RetB (.bool (hasPk hs y)) w) := by
  obtain ⟨m, rfl⟩ := Int.eq_ofNat_of_zero_le h0
  have hm : m < n := by omega
  obtain ⟨b, o, rfl, hb, c0⟩ := hx.at_pk hm
  obtain ⟨z, hz⟩ : ∃ z, nth hs m = z := ⟨_, rfl⟩
  have HE : Hid (decide (0 < z) = hasPk hs (m : Int)) := Lib.hid (by unfold hasPk; rw [Int.toNat_natCast, hz])
  rw [hz] at c0
  clear hz hx h0 h1
  go_enter Try.func29, Try.ntmps29
  go_wp2_with fail
  go_ret
  exact ⟨by simp; exact HE.out, Below.refl _ _⟩

set_option maxHeartbeats 1000000 in
theorem idxme_pk (v : Value) (g : Int → Bool) (A : Option Addr) (n c : Nat) (l : List Int) (w : World) (hx : Ints w A n l)
    (HC : ∀ (z : Int) (W : World), z ∈ l → Below w.heap.size w W → Calls Try.prog 23 #[.int .i64 z, v] W (RetB (.bool (g z)) W)) :
    Calls Try.prog 28 #[.slice A n c, .func (.func 23) #[] #[v]] w
      (fun e w' => ∃ r : Int, e = .returned (.int .i64 r) ∧ AtPk g l r ∧ Below w.heap.size w w') := by
  have HX := Lib.hid hx
  have LX := Lib.hid hx.1
  have HF := Lib.hid HC
  have hnc := hx.2.1
  clear hx HC
  go_enter Try.func28, Try.ntmps28
  go_wp2_with fail
  go_loopw [8] (fun t wr => ∃ k : Nat, k ≤ n ∧ t = .int .i64 k ∧ Hid (Below w.heap.size w wr ∧ ∀ j, j < k → g (nth l j) = false)) (fun t _ => n - (intOf t).toNat)
  case atStart => exact ⟨0, Nat.zero_le _, rfl, Lib.hid ⟨Below.refl _ _, fun i hi => by omega⟩⟩
  case round =>
    rename World => wr
    obtain ⟨k, hk, rfl, OK⟩ := hrel
    by_cases hkn : k < n
    · obtain ⟨b, o, rfl, hb, c0⟩ := (HX.out.below OK.out.1).at_pk hkn
      have hkl : k < l.length := by rw [LX.out]; exact hkn
      obtain ⟨z1, hz⟩ : ∃ z1, nth l k = z1 := ⟨_, rfl⟩
      rw [hz] at c0
      have HQ := Lib.hid (HF.out z1 wr (nth_memPk.2 ⟨k, hkl, hz⟩) OK.out.1)
      have HZ := Lib.hid hz
      clear hz
      go_wp2_with fail
      refine HQ.out.mono ?_
      by_cases he : g z1 = true
      · rw [he]
        rintro e w1 ⟨rfl, b1⟩
        have HH : Hid (AtPk g l k ∧ Below w.heap.size w w1) := Lib.hid ⟨.inr ⟨k, rfl, hkl, by rw [HZ.out]; exact he, OK.out.2⟩, below3 OK.out.1 b1⟩
        clear he b1
        go_wp2_with fail
        go_ret
        exact ⟨k, rfl, HH.out.1, HH.out.2⟩
      · have he' : g z1 = false := by simpa using he
        rw [he']
        rintro e w1 ⟨rfl, b1⟩
        have OK2 : Hid (Below w.heap.size w w1 ∧ ∀ j, j < k + 1 → g (nth l j) = false) := Lib.hid ⟨below3 OK.out.1 b1, fun i hi => by
          by_cases e : i = k
          · subst e; rw [HZ.out]; exact he'
          · exact OK.out.2 i (by omega)⟩
        clear he he' OK b1
        go_wp2_with fail
        go_roundw
        case rel => exact ⟨k + 1, by omega, by go_num, OK2⟩
        case measure => simp [intOf]; omega
    · have HH : Hid (AtPk g l (-1) ∧ Below w.heap.size w wr) := Lib.hid ⟨.inl ⟨rfl, fun j hj => OK.out.2 j (by have := LX.out; omega)⟩, OK.out.1⟩
      go_wp2_with fail
      go_ret
      exact ⟨-1, rfl, HH.out.1, HH.out.2⟩

set_option maxHeartbeats 1000000 in
theorem idxhas_pk (v : Value) (g : Int → Bool) (A : Option Addr) (n c : Nat) (l : List Int) (w : World) (hx : Ints w A n l)
    (HC : ∀ (z : Int) (W : World), z ∈ l → Below w.heap.size w W → Calls Try.prog 29 #[.int .i64 z, v] W (RetB (.bool (g z)) W)) :
    Calls Try.prog 28 #[.slice A n c, .func (.func 29) #[] #[v]] w
      (fun e w' => ∃ r : Int, e = .returned (.int .i64 r) ∧ AtPk g l r ∧ Below w.heap.size w w') := by
  have HX := Lib.hid hx
  have LX := Lib.hid hx.1
  have HF := Lib.hid HC
  have hnc := hx.2.1
  clear hx HC
  go_enter Try.func28, Try.ntmps28
  go_wp2_with fail
  go_loopw [8] (fun t wr => ∃ k : Nat, k ≤ n ∧ t = .int .i64 k ∧ Hid (Below w.heap.size w wr ∧ ∀ j, j < k → g (nth l j) = false)) (fun t _ => n - (intOf t).toNat)
  case atStart => exact ⟨0, Nat.zero_le _, rfl, Lib.hid ⟨Below.refl _ _, fun i hi => by omega⟩⟩
  case round =>
    rename World => wr
    obtain ⟨k, hk, rfl, OK⟩ := hrel
    by_cases hkn : k < n
    · obtain ⟨b, o, rfl, hb, c0⟩ := (HX.out.below OK.out.1).at_pk hkn
      have hkl : k < l.length := by rw [LX.out]; exact hkn
      obtain ⟨z1, hz⟩ : ∃ z1, nth l k = z1 := ⟨_, rfl⟩
      rw [hz] at c0
      have HQ := Lib.hid (HF.out z1 wr (nth_memPk.2 ⟨k, hkl, hz⟩) OK.out.1)
      have HZ := Lib.hid hz
      clear hz
      go_wp2_with fail
      refine HQ.out.mono ?_
      by_cases he : g z1 = true
      · rw [he]
        rintro e w1 ⟨rfl, b1⟩
        have HH : Hid (AtPk g l k ∧ Below w.heap.size w w1) := Lib.hid ⟨.inr ⟨k, rfl, hkl, by rw [HZ.out]; exact he, OK.out.2⟩, below3 OK.out.1 b1⟩
        clear he b1
        go_wp2_with fail
        go_ret
        exact ⟨k, rfl, HH.out.1, HH.out.2⟩
      · have he' : g z1 = false := by simpa using he
        rw [he']
        rintro e w1 ⟨rfl, b1⟩
        have OK2 : Hid (Below w.heap.size w w1 ∧ ∀ j, j < k + 1 → g (nth l j) = false) := Lib.hid ⟨below3 OK.out.1 b1, fun i hi => by
          by_cases e : i = k
          · subst e; rw [HZ.out]; exact he'
          · exact OK.out.2 i (by omega)⟩
        clear he he' OK b1
        go_wp2_with fail
        go_roundw
        case rel => exact ⟨k + 1, by omega, by go_num, OK2⟩
        case measure => simp [intOf]; omega
    · have HH : Hid (AtPk g l (-1) ∧ Below w.heap.size w wr) := Lib.hid ⟨.inl ⟨rfl, fun j hj => OK.out.2 j (by have := LX.out; omega)⟩, OK.out.1⟩
      go_wp2_with fail
      go_ret
      exact ⟨-1, rfl, HH.out.1, HH.out.2⟩

set_option maxHeartbeats 1000000 in
theorem idxneg_pk (g : Int → Bool) (A : Option Addr) (n c : Nat) (l : List Int) (w : World) (hx : Ints w A n l)
    (HC : ∀ (z : Int) (W : World), z ∈ l → Below w.heap.size w W → Calls Try.prog 27 #[.int .i64 z] W (RetB (.bool (g z)) W)) :
    Calls Try.prog 28 #[.slice A n c, .func (.func 27) #[] #[]] w
      (fun e w' => ∃ r : Int, e = .returned (.int .i64 r) ∧ AtPk g l r ∧ Below w.heap.size w w') := by
  have HX := Lib.hid hx
  have LX := Lib.hid hx.1
  have HF := Lib.hid HC
  have hnc := hx.2.1
  clear hx HC
  go_enter Try.func28, Try.ntmps28
  go_wp2_with fail
  go_loopw [8] (fun t wr => ∃ k : Nat, k ≤ n ∧ t = .int .i64 k ∧ Hid (Below w.heap.size w wr ∧ ∀ j, j < k → g (nth l j) = false)) (fun t _ => n - (intOf t).toNat)
  case atStart => exact ⟨0, Nat.zero_le _, rfl, Lib.hid ⟨Below.refl _ _, fun i hi => by omega⟩⟩
  case round =>
    rename World => wr
    obtain ⟨k, hk, rfl, OK⟩ := hrel
    by_cases hkn : k < n
    · obtain ⟨b, o, rfl, hb, c0⟩ := (HX.out.below OK.out.1).at_pk hkn
      have hkl : k < l.length := by rw [LX.out]; exact hkn
      obtain ⟨z1, hz⟩ : ∃ z1, nth l k = z1 := ⟨_, rfl⟩
      rw [hz] at c0
      have HQ := Lib.hid (HF.out z1 wr (nth_memPk.2 ⟨k, hkl, hz⟩) OK.out.1)
      have HZ := Lib.hid hz
      clear hz
      go_wp2_with fail
      refine HQ.out.mono ?_
      by_cases he : g z1 = true
      · rw [he]
        rintro e w1 ⟨rfl, b1⟩
        have HH : Hid (AtPk g l k ∧ Below w.heap.size w w1) := Lib.hid ⟨.inr ⟨k, rfl, hkl, by rw [HZ.out]; exact he, OK.out.2⟩, below3 OK.out.1 b1⟩
        clear he b1
        go_wp2_with fail
        go_ret
        exact ⟨k, rfl, HH.out.1, HH.out.2⟩
      · have he' : g z1 = false := by simpa using he
        rw [he']
        rintro e w1 ⟨rfl, b1⟩
        have OK2 : Hid (Below w.heap.size w w1 ∧ ∀ j, j < k + 1 → g (nth l j) = false) := Lib.hid ⟨below3 OK.out.1 b1, fun i hi => by
          by_cases e : i = k
          · subst e; rw [HZ.out]; exact he'
          · exact OK.out.2 i (by omega)⟩
        clear he he' OK b1
        go_wp2_with fail
        go_roundw
        case rel => exact ⟨k + 1, by omega, by go_num, OK2⟩
        case measure => simp [intOf]; omega
    · have HH : Hid (AtPk g l (-1) ∧ Below w.heap.size w wr) := Lib.hid ⟨.inl ⟨rfl, fun j hj => OK.out.2 j (by have := LX.out; omega)⟩, OK.out.1⟩
      go_wp2_with fail
      go_ret
      exact ⟨-1, rfl, HH.out.1, HH.out.2⟩

theorem anyneg_pk (A : Option Addr) (n c : Nat) (l : List Int) (w : World) (hx : Ints w A n l) :
    Calls Try.prog 26 #[.slice A n c, .func (.func 27) #[] #[]] w (RetB (.bool (negPk l)) w) := by
  have HX := Lib.hid hx
  clear hx
  go_enter Try.func26, Try.ntmps26
  go_wp2_with fail
  refine (idxneg_pk (fun z => decide (z < 0)) A n c l _ HX.out (fun z W _ _ => isneg_pk z W)).mono ?_
  rintro e w1 ⟨r, rfl, hat, b1⟩
  have HA : Hid (decide (0 ≤ r) = negPk l) := Lib.hid hat.has
  have HB := Lib.hid b1
  clear hat b1
  go_wp2_with fail
  go_ret
  exact ⟨by simpa using HA.out, HB.out⟩

set_option maxHeartbeats 4000000 in
theorem del_pk (ga n c gb base : Nat) (l : List Int) (x : Int) (w : World) (ho : OwnI 3 w base (some ⟨ga, 0, none⟩) c l) (hn : l.length = n) (hk : Bk w gb 3 #[.int .i64 x]) (hne : ga ≠ gb) (hm : x ∈ l) :
    Calls Try.prog 22 #[.slice (some ⟨ga, 0, none⟩) n c, .func (.func 23) #[] #[.pointer (some ⟨gb, 0, none⟩)]] w
      (fun e w' => e = .returned (.slice (some ⟨ga, 0, none⟩) (butPk l x).length c) ∧ OwnI 3 w' base (some ⟨ga, 0, none⟩) c (butPk l x) ∧ w.grownBy w' (some ga)) := by
  have HX := Lib.hid (ho.intsN hn)
  have HO := Lib.hid ho
  have LX := Lib.hid hn
  have HK := Lib.hid hk
  have HM := Lib.hid hm
  have HNE := Lib.hid hne
  have hcap := ho.cap
  rw [hn] at hcap
  clear ho hk hm hn hne
  obtain ⟨qn, hqn⟩ : ∃ qn, (butPk l x).length = qn := ⟨_, rfl⟩
  rw [hqn]
  have HQN := Lib.hid hqn
  clear hqn
  go_enter Try.func22, Try.ntmps22
  go_wp2_with fail
  refine (idxme_pk (.pointer (some ⟨gb, 0, none⟩)) (fun z => decide (z = x)) (some ⟨ga, 0, none⟩) n c l _ HX.out (fun z W hz hb => isme_pk z x gb W ((hb.cell (p := ⟨gb, 0, none⟩) HK.out.lt).trans HK.out.one) (Nat.lt_of_lt_of_le HK.out.lt hb.size))).mono ?_
  rintro e w1 ⟨r, rfl, hat, b1⟩
  obtain ⟨k0, rfl, hf1, hf2, hf3⟩ : ∃ k : Nat, r = (k : Int) ∧ k < l.length ∧ nth l k = x ∧ ∀ j, j < k → nth l j ≠ x := by
    rcases hat with ⟨-, h⟩ | ⟨k, rfl, h1, h2, h3⟩
    · obtain ⟨j, hj, e⟩ := nth_memPk.1 HM.out
      have := h j hj
      rw [e] at this
      simp at this
    · exact ⟨k, rfl, h1, by simpa using h2, fun j hj => by simpa using h3 j hj⟩
  have hk0 : k0 < n := by rw [← LX.out]; exact hf1
  have O1 := Lib.hid (HO.out.below b1)
  have K1 := Lib.hid (HK.out.below b1 HK.out.lt)
  have I0 := Lib.hid (DelPk.start hf1 hf2 hf3)
  have G1 : Hid (w.grownBy w1 (some ga)) := Lib.hid ⟨b1.os, b1.tape, b1.output, b1.size, fun k hk _ => b1.block k hk⟩
  have t0 : ((k0 : Int) == -1) = false := by simp <;> omega
  clear b1 hf1 hf2 hf3 HX HO HK
  go_wp2_with fail
  go_loopw [5, 6] (fun u5 u6 wr => ∃ (i j : Nat) (dk : List Int), u5 = .int .i64 i ∧ u6 = .int .i64 j ∧ j ≤ n ∧ i < j ∧ Hid (DelPk l x i j dk) ∧ Hid (OwnI 3 wr base (some ⟨ga, 0, none⟩) c dk) ∧ Hid (w.grownBy wr (some ga)) ∧ Hid (Bk wr gb 3 #[.int .i64 x])) (fun _ u6 _ => n - (intOf u6).toNat)
  case atStart => exact ⟨k0, k0 + 1, l, rfl, by go_num, by omega, by omega, I0, O1, G1, K1⟩
  case round =>
    clear I0 O1 G1 K1
    rename World => wr
    obtain ⟨i, j, dk, rfl, rfl, hj, hij, DI, OD, GW, KW⟩ := hrel
    by_cases hjn : j < n
    · have hdl : dk.length = n := by rw [DI.out.len]; exact LX.out
      obtain ⟨b, o, e, hb, c0⟩ := (OD.out.intsN hdl).at_pk hjn
      injection e with e
      injection e with e1 e2 _
      subst e1 e2
      rw [Nat.zero_add, DI.out.high j (Nat.le_refl _)] at c0
      have hjl : j < l.length := by rw [LX.out]; exact hjn
      obtain ⟨ci, fi⟩ := OD.out.at_ (j := i) (by rw [hdl]; omega)
      have fz : Fit (nth l j) := by have := (OD.out.intsN hdl).fit_pk hjn; rwa [DI.out.high j (Nat.le_refl _)] at this
      obtain ⟨y, hy⟩ : ∃ y, nth l j = y := ⟨_, rfl⟩
      obtain ⟨old, hold⟩ : ∃ old, nth dk i = old := ⟨_, rfl⟩
      rw [hy] at c0 fz
      rw [hold] at ci
      have HY := Lib.hid hy
      have FZ := Lib.hid fz
      have hkc := KW.out.one
      have hkl := KW.out.lt
      have HC := Lib.hid (isme_pk y x gb wr hkc hkl)
      clear hy hold hdl fz hkc hkl
      by_cases he : y = x
      · rw [decide_eq_true he] at HC
        have DN := Lib.hid (DI.out.skip hjl (by rw [HY.out]; exact he))
        clear he ci fi
        go_wp2_with fail
        refine HC.out.mono ?_
        rintro e w2 ⟨rfl, b2⟩
        have O2 := Lib.hid (OD.out.below b2)
        have K2 := Lib.hid (KW.out.below b2 KW.out.lt)
        have G2 := Lib.hid (GW.out.trans (show wr.grownBy w2 (some ga) from ⟨b2.os, b2.tape, b2.output, b2.size, fun k hk _ => b2.block k hk⟩))
        clear b2 c0 hb HC
        go_wp2_with fail
        go_roundw
        case rel => exact ⟨i, j + 1, dk, rfl, by go_num, by omega, by omega, DN, O2, G2, K2⟩
        case measure => simp [intOf]; omega
      · rw [decide_eq_false he] at HC
        have DN := Lib.hid (DI.out.keep hjl (by rw [HY.out]; exact he))
        rw [HY.out] at DN
        clear he
        go_wp2_with fail
        refine HC.out.mono ?_
        rintro e w2 ⟨rfl, b2⟩
        have ci2 := (b2.cell (p := ⟨ga, i, none⟩) hb).trans ci
        have fi2 := (b2.frozen (p := ⟨ga, i, none⟩) hb).trans fi
        have hb2 := Nat.lt_of_lt_of_le hb b2.size
        have O2 := Lib.hid ((OD.out.below b2).set_ i FZ.out)
        have K2 := Lib.hid ((KW.out.below b2 KW.out.lt).far (p := ⟨ga, i, none⟩) (fun q => HNE.out q.symm) (.int .i64 y))
        have G2 := Lib.hid ((GW.out.trans (show wr.grownBy w2 (some ga) from ⟨b2.os, b2.tape, b2.output, b2.size, fun k hk _ => b2.block k hk⟩)).trans (grown_set (g := ga) (i := i) (.int .i64 y)))
        clear b2 c0 hb HC ci fi
        go_wp2_with fail
        go_roundw
        case rel => exact ⟨i + 1, j + 1, dk.set i y, by go_num, by go_num, by omega, by omega, DN, O2, G2, K2⟩
        case measure => simp [intOf]; omega
    · have hjn' : j = n := by omega
      have hdl : dk.length = n := by rw [DI.out.len]; exact LX.out
      obtain ⟨hd1, hd2⟩ := DI.out.done (by rw [LX.out]; omega)
      have hin : i < n := by omega
      have hcl : ∀ ty, (Builtin.clear_ #[25] ty #[.slice (some ⟨ga, i, none⟩) (n - i) (c - i)]).run Try.prog wr = .ok (.tuple #[]) (wr.setCells ga i (List.replicate (n - i) (.int .i64 0))) :=
        fun ty => Lib.run_clear_slice wr _ 3 ty _ Try.underlying25 (fun w => by kernel_rfl) rfl rfl ga i _ _ (by omega) (fun t ht => by rw [(OD.out.at_ (j := i + t) (by rw [hdl]; omega)).1]; rfl) (fun t ht => (OD.out.at_ (j := i + t) (by rw [hdl]; omega)).2)
      have OF := Lib.hid (OwnI.setOut_pk (List.replicate (n - i) (Value.int .i64 0)) i wr (by rw [List.length_take]; omega) (OD.out.short_pk (k := i) (by rw [hdl]; omega) (by simp)))
      have GF := Lib.hid (GW.out.trans (grown_setCells wr ga i (List.replicate (n - i) (Value.int .i64 0))))
      rw [hd1] at OF
      have hic : i < c := by omega
      have HD := Lib.hid (hd2.trans HQN.out)
      clear hd1 hd2 hdl hjn' DI OD GW KW
      go_wp2_with fail
      go_ret
      have e := HD.out
      subst e
      exact ⟨rfl, OF.out, GF.out⟩

end Go.Proofs.Ytljfinfjchkphaa

/-
  The walk of the law SlotEnds of layer 5.
-/
import Derived.Test.YtfaajimmammfdaaLive
import Derived.Test.YtfaajimmammfdaaPf
namespace Go.Proofs.Ytfaajimmammfdaa
open Go.RowKit

theorem fit_idP {gs : List Int} {ls : List Bool} {i : Nat} (h : okS gs ls) (hi : i < gs.length) : Fit (idP gs i) := by
  obtain ⟨h1, h2, _⟩ := h.2.2.2 i hi
  have := h.2.1
  unfold Fit idP
  omega
theorem id_def (gs : List Int) (i : Nat) : idP gs i = 256 * nth gs i + (i : Int) := rfl
theorem nofree_next {gs : List Int} {ls : List Bool} {k : Nat} (h : ∀ j, j < k → ¬ freeP gs ls j) (h1 : ¬ freeP gs ls k) : ∀ j, j < k + 1 → ¬ freeP gs ls j := fun j hj => by
  rcases Nat.lt_or_ge j k with h' | h'
  · exact h j h'
  · obtain rfl : j = k := by omega
    exact h1

/-- The relation of the loop: the first free place among the first k, or -1. -/
def EnRel (gs : List Int) (ls : List Bool) (n : Nat) (u t : Value) : Prop :=
  ∃ k : Nat, k ≤ n ∧ t = .int .i64 k ∧ ((∃ i : Nat, i < k ∧ IsFirst gs ls i ∧ u = .int .i64 (i : Int)) ∨ ((∀ j, j < k → ¬ freeP gs ls j) ∧ u = .int .i64 (-1)))

set_option maxRecDepth 100000 in
set_option maxHeartbeats 4000000 in
theorem lends_long (A B : Option Addr) (n c m d : Nat) (w : World) (hn : n ≤ 9223372036854775807) (hm : m ≤ 9223372036854775807) (h : 300 < n ∨ 300 < m) :
    Calls Try.prog 5 #[.slice A n c, .slice B m d] w (TrueAns w) := by
  by_cases h1 : 300 < n
  · clear h
    go_enter Try.func5, Try.ntmps5
    go_wp2_with fail
    refine (live_any _).mono ?_
    rintro e w1 ⟨rfl, hb1⟩
    have HB1 := Lib.hid hb1
    clear hb1
    go_wp2
    go_ret
    exact ⟨rfl, HB1.out⟩
  · have h2 : 300 < m := by omega
    clear h
    go_enter Try.func5, Try.ntmps5
    go_wp2_with fail
    refine (live_any _).mono ?_
    rintro e w1 ⟨rfl, hb1⟩
    have HB1 := Lib.hid hb1
    clear hb1
    go_wp2
    go_ret
    exact ⟨rfl, HB1.out⟩

set_option maxRecDepth 100000 in
set_option maxHeartbeats 4000000 in
theorem lends_bad (A B : Option Addr) (n c m d : Nat) (gs : List Int) (ls : List Bool) (w : World) (hp : Plc w A n B m gs ls) (hn : n ≤ 300) (hm : m ≤ 300) (h : ¬ okS gs ls) :
    Calls Try.prog 5 #[.slice A n c, .slice B m d] w (TrueAns w) := by
  have HP := Lib.hid hp
  have HT := Lib.hid (takeF_bad h)
  have HE := Lib.hid (errS_no h)
  clear hp h
  go_enter Try.func5, Try.ntmps5
  go_wp2_with fail
  refine (live_any _).mono ?_
  rintro e w1 ⟨rfl, hb1⟩
  have X1 := hb1.alloc hb1.size (.cells #[.slice A n c, .slice B m d] 25)
  have HB1 := Lib.hid X1
  have HP1 := Lib.hid (HP.out.below X1)
  have K1 := Lib.hid (Bk.new w1 25 #[.slice A n c, .slice B m d])
  clear hb1 X1 HP
  have a0 := K1.out.c0
  have a1 := K1.out.c1
  go_wp2_with fail
  refine (take_any A B n c m d gs ls _ HP1.out).mono ?_
  rw [HT.out]
  rintro e w2 ⟨A2, c2, B2, d2, rfl, ho2, hb2⟩
  have X2 := hb2.alloc hb2.size (.cells #[.slice A2 0 c2, .slice B2 0 d2] 25)
  have HB2 := Lib.hid (below3 HB1.out X2)
  have HP2 := Lib.hid (HP1.out.below X2)
  have K2 := Lib.hid (K1.out.below X2 K1.out.lt)
  clear hb2 X2 HP1 K1 a0 a1 ho2
  have a0 := K2.out.c0
  have a1 := K2.out.c1
  go_wp2_with fail
  refine (check_any A B n c m d gs ls _ HP2.out).mono ?_
  rintro e w3 ⟨rfl, hb3⟩
  rw [HE.out]
  have HB3 := Lib.hid (below3 HB2.out hb3)
  clear hb3 a0 a1
  go_wp2
  go_ret
  exact ⟨rfl, HB3.out⟩

set_option maxRecDepth 100000 in
set_option maxHeartbeats 4000000 in
theorem lends_good (A B : Option Addr) (n c m d : Nat) (gs : List Int) (ls : List Bool) (w : World) (hp : Plc w A n B m gs ls) (hn : n ≤ 300) (hm : m ≤ 300) (h : okS gs ls) :
    Calls Try.prog 5 #[.slice A n c, .slice B m d] w (TrueAns w) := by
  obtain ⟨a, ha⟩ : ∃ a, takeF gs ls = a := ⟨_, rfl⟩
  have HT := Lib.hid ha
  have HP := Lib.hid hp
  have HOK := Lib.hid h
  have HE := Lib.hid (errS_ok h)
  have hmn : m = n := by have := h.2.2.1; have := hp.g.1; have := hp.l.1; omega
  subst hmn
  have HN := Lib.hid hp.g.1
  have HM := Lib.hid hp.l.1
  clear hp h ha
  obtain ⟨x, gs2, ls2, er⟩ := a
  obtain ⟨N, hN⟩ : ∃ N, gs2.length = N := ⟨_, rfl⟩
  obtain ⟨M, hM⟩ : ∃ M, ls2.length = M := ⟨_, rfl⟩
  have LN := Lib.hid hN
  have LM := Lib.hid hM
  clear hN hM
  go_enter Try.func5, Try.ntmps5
  go_wp2_with fail
  refine (live_any _).mono ?_
  rintro e w1 ⟨rfl, hb1⟩
  have X1 := hb1.alloc hb1.size (.cells #[.slice A m c, .slice B m d] 25)
  have HB1 := Lib.hid X1
  have HP1 := Lib.hid (HP.out.below X1)
  have K1 := Lib.hid (Bk.new w1 25 #[.slice A m c, .slice B m d])
  clear hb1 X1 HP
  have a0 := K1.out.c0
  have a1 := K1.out.c1
  go_wp2_with fail
  refine (take_any A B m c m d gs ls _ HP1.out).mono ?_
  rw [HT.out]
  rintro e w2 ⟨A2, c2, B2, d2, rfl, ho2, hb2⟩
  have V2 := Lib.hid (PV.new (n := N) (m := M) HB1.out hb2 ho2 LN.out LM.out)
  have X2 := hb2.alloc hb2.size (.cells #[.slice A2 N c2, .slice B2 M d2] 25)
  have HP2 := Lib.hid (HP1.out.below X2)
  have K2 := Lib.hid (K1.out.below X2 K1.out.lt)
  simp only [LN.out, LM.out]
  clear hb2 X2 HP1 K1 a0 a1 ho2
  have a0 := K2.out.c0
  have a1 := K2.out.c1
  go_wp2_with fail
  refine (check_any A B m c m d gs ls _ HP2.out).mono ?_
  rintro e w3 ⟨rfl, hb3⟩
  rw [HE.out]
  have HP3 := Lib.hid (HP2.out.below hb3)
  have V3 := Lib.hid (V2.out.call hb3)
  clear hb3 a0 a1 HP2 V2 K2
  go_wp2
  go_loop [10, 45] (fun u t => EnRel gs ls m u t) (fun _ t => m - (intOf t).toNat)
  case atStart => exact ⟨0, Nat.zero_le _, rfl, .inr ⟨fun j hj => absurd hj (by omega), rfl⟩⟩
  case round =>
    obtain ⟨k, hk, rfl, hcase⟩ := hrel
    rcases hcase with ⟨i, hik, hi, rfl⟩ | ⟨hall, rfl⟩
    · have HI := Lib.hid hi
      clear hi
      by_cases hlt : k < m
      · obtain ⟨b, o, rfl, hb, hc⟩ := HP3.out.g.2.2.2 (by omega)
        obtain ⟨b', o', rfl, hb', hc'⟩ := HP3.out.l.2.2 (by omega)
        have c1 := hc k hlt
        have c2 := hc' k hlt
        clear hc hc' hb hb'
        obtain ⟨z, hz⟩ : ∃ z, nth gs k = z := ⟨_, rfl⟩
        obtain ⟨y, hy⟩ : ∃ y, bth ls k = y := ⟨_, rfl⟩
        rw [hz] at c1
        rw [hy] at c2
        clear hz hy
        cases y
        · by_cases hx : z < 1099511627776
          · go_wp2
            go_round
            case rel => exact ⟨k + 1, by omega, by go_num, .inl ⟨i, by omega, HI.out, rfl⟩⟩
            case measure => simp [intOf]; omega
          · go_wp2
            go_round
            case rel => exact ⟨k + 1, by omega, by go_num, .inl ⟨i, by omega, HI.out, rfl⟩⟩
            case measure => simp [intOf]; omega
        · go_wp2
          go_round
          case rel => exact ⟨k + 1, by omega, by go_num, .inl ⟨i, by omega, HI.out, rfl⟩⟩
          case measure => simp [intOf]; omega
      · have e := (takeF_first HOK.out HI.out).symm.trans HT.out
        simp only [Prod.mk.injEq] at e
        obtain ⟨e1, e2, e3, e4⟩ := e
        subst e2 e3 e4
        have HF := Lib.hid (taken_found HOK.out HI.out)
        have HFN : Hid (findN gs (ls.set i true) x = (i : Int)) := Lib.hid (by
          have := HF.out
          have h256 := HOK.out.2.1
          have hil := HI.out.1
          rw [← e1, findN, if_pos this, (id_place (gs := gs) (i := i) (by omega)).1])
        have HFX : Hid (Fit x) := Lib.hid (e1 ▸ fit_idP HOK.out HI.out.1)
        have him : i < m := by have := HI.out.1; have := HN.out; omega
        obtain ⟨b, o, rfl, hb, hc⟩ := HP3.out.g.2.2.2 (by omega)
        have c1 := Lib.hid (hc i him)
        have C1 := Lib.hid hb
        clear hc hb
        obtain ⟨z, hz⟩ : ∃ z, nth gs i = z := ⟨_, rfl⟩
        obtain ⟨g0, g1, -⟩ := HOK.out.2.2.2 i HI.out.1
        have hxe : (x == z * 256 + (i : Int)) = true := by
          have := id_def gs i
          rw [e1, hz] at this
          simp; omega
        rw [hz] at g0 g1 c1
        have HFE : Hid (findE gs (ls.set i true) x = 0) := Lib.hid (e1 ▸ HF.out)
        have v0 := V3.out.box.c0
        have v1 := V3.out.box.c1
        clear e1 hz HF
        go_wp2_with fail
        refine (find_any A2 B2 N c2 M d2 gs (ls.set i true) x _ V3.out.plc HFX.out).mono ?_
        rintro e w4 ⟨rfl, hb4⟩
        rw [HFE.out, HFN.out]
        have HB4 := Lib.hid (below3 V3.out.below hb4)
        have cc := (hb4.cell (p := ⟨b, o + i, none⟩) C1.out).trans c1.out
        clear hb4 v0 v1
        go_wp2
        go_ret
        exact ⟨rfl, HB4.out⟩
    · have HALL := Lib.hid hall
      clear hall
      by_cases hlt : k < m
      · obtain ⟨b, o, rfl, hb, hc⟩ := HP3.out.g.2.2.2 (by omega)
        obtain ⟨b', o', rfl, hb', hc'⟩ := HP3.out.l.2.2 (by omega)
        have c1 := hc k hlt
        have c2 := hc' k hlt
        clear hc hc' hb hb'
        obtain ⟨z, hz⟩ : ∃ z, nth gs k = z := ⟨_, rfl⟩
        obtain ⟨y, hy⟩ : ∃ y, bth ls k = y := ⟨_, rfl⟩
        have HZ := Lib.hid hz
        have HY := Lib.hid hy
        rw [hz] at c1
        rw [hy] at c2
        clear hz hy
        have HG : Hid (k < gs.length) := Lib.hid (by rw [HN.out]; exact hlt)
        cases y
        · by_cases hx : z < 1099511627776
          · have HFR : Hid (IsFirst gs ls k) := Lib.hid ⟨HG.out, ⟨HY.out, by rw [HZ.out]; exact hx⟩, HALL.out⟩
            go_wp2
            go_round
            case rel => exact ⟨k + 1, by omega, by go_num, .inl ⟨k, by omega, HFR.out, rfl⟩⟩
            case measure => simp [intOf]; omega
          · have HA2 : Hid (∀ j, j < k + 1 → ¬ freeP gs ls j) := Lib.hid (nofree_next HALL.out (fun h => hx (by have := h.2; rwa [HZ.out] at this)))
            go_wp2
            go_round
            case rel => exact ⟨k + 1, by omega, by go_num, .inr ⟨HA2.out, rfl⟩⟩
            case measure => simp [intOf]; omega
        · have HA2 : Hid (∀ j, j < k + 1 → ¬ freeP gs ls j) := Lib.hid (nofree_next HALL.out (fun h => by have := h.1; rw [HY.out] at this; cases this))
          go_wp2
          go_round
          case rel => exact ⟨k + 1, by omega, by go_num, .inr ⟨HA2.out, rfl⟩⟩
          case measure => simp [intOf]; omega
      · have e := (takeF_full HOK.out (fun j hj => HALL.out j (by rw [HN.out] at hj; omega))).symm.trans HT.out
        simp only [Prod.mk.injEq] at e
        obtain ⟨e1, e2, e3, e4⟩ := e
        subst e1 e2 e3 e4
        have HB := Lib.hid V3.out.below
        go_wp2
        go_ret
        exact ⟨rfl, HB.out⟩

theorem lends_any (A B : Option Addr) (n c m d : Nat) (gs : List Int) (ls : List Bool) (w : World) (hn : n ≤ 9223372036854775807) (hm : m ≤ 9223372036854775807) (hg : n ≤ 400 → Ints w A n gs) (hl : m ≤ 400 → Flags w B m ls) :
    Calls Try.prog 5 #[.slice A n c, .slice B m d] w (TrueAns w) := by
  by_cases h : 300 < n ∨ 300 < m
  · exact lends_long A B n c m d w hn hm h
  · have hp : Plc w A n B m gs ls := ⟨hg (by omega), hl (by omega)⟩
    by_cases hok : okS gs ls
    · exact lends_good A B n c m d gs ls w hp (by omega) (by omega) hok
    · exact lends_bad A B n c m d gs ls w hp (by omega) (by omega) hok

end Go.Proofs.Ytfaajimmammfdaa

/-
  The walk of the law SlotIds of layer 5.
-/
import Derived.Test.YtfaajimmammfdaaLive
import Derived.Test.YtfaajimmammfdaaPj
import Derived.Test.YtfaajimmammfdaaPh
namespace Go.Proofs.Ytfaajimmammfdaa
open Go.RowKit

theorem nth_snoc (xs : List Int) (x : Int) (k : Nat) (h : k < (xs ++ [x]).length) : nth (xs ++ [x]) k = if k < xs.length then nth xs k else x := by
  rw [nth_get h, List.getElem_append]
  split
  · rename_i h'; rw [nth_get h']
  · simp

/-- The ids: of places that are there, one by one, by their numbers. -/
theorem idsS_facts {gs : List Int} {ls : List Bool} (hok : okS gs ls) : ∀ m, m ≤ gs.length →
    (∀ k, k < (idsS gs ls m).length → ∃ i : Nat, i < m ∧ bth ls i = true ∧ nth (idsS gs ls m) k = idP gs i) ∧
    (∀ j k, j < k → k < (idsS gs ls m).length → nth (idsS gs ls m) j % 256 < nth (idsS gs ls m) k % 256) := by
  intro m
  induction m with
  | zero => intro _; exact ⟨fun k hk => absurd hk (by simp [idsS]), fun j k _ hk => absurd hk (by simp [idsS])⟩
  | succ m ih =>
    intro hm
    obtain ⟨h1, h2⟩ := ih (by omega)
    have h256 := hok.2.1
    rw [idsS_succ]
    by_cases hl : bth ls m = true
    · rw [if_pos hl]
      refine ⟨fun k hk => ?_, fun j k hjk hk => ?_⟩
      · rw [nth_snoc _ _ _ hk]
        split
        · rename_i h
          obtain ⟨i, a, b, c⟩ := h1 k h
          exact ⟨i, by omega, b, c⟩
        · exact ⟨m, by omega, hl, rfl⟩
      · rw [nth_snoc _ _ _ hk, nth_snoc _ _ _ (by omega)]
        have hk' : k ≤ (idsS gs ls m).length := by simp at hk; omega
        rw [if_pos (show j < (idsS gs ls m).length by omega)]
        split
        · rename_i h; exact h2 j k hjk h
        · obtain ⟨i, a, b, c⟩ := h1 j (by omega)
          rw [c, (id_place (gs := gs) (i := i) (by omega)).1, (id_place (gs := gs) (i := m) (by omega)).1]
          omega
    · rw [if_neg hl, List.append_nil]
      exact ⟨fun k hk => by obtain ⟨i, a, b⟩ := h1 k hk; exact ⟨i, by omega, b⟩, h2⟩

/-- The relations of the loops. -/
def SIRel (l : List Int) (n : Nat) (w : World) (u t : Value) (wr : World) : Prop :=
  ∃ k : Nat, k ≤ n ∧ t = .int .i64 k ∧ ∃ last : Int, u = .int .i64 last ∧ -1 ≤ last ∧ last ≤ 255 ∧ Hid (∀ j, k ≤ j → j < n → last < nth l j % 256) ∧ Below w.heap.size w wr
def SHRel (ls : List Bool) (n : Nat) (u t : Value) : Prop := ∃ k : Nat, k ≤ n ∧ t = .int .i64 k ∧ ∃ c : Nat, u = .int .i64 (c : Int) ∧ c ≤ k ∧ Hid (c = hereN ls k)

set_option maxRecDepth 100000 in
set_option maxHeartbeats 4000000 in
theorem lids_long (A B : Option Addr) (n c m d : Nat) (w : World) (hn : n ≤ 9223372036854775807) (hm : m ≤ 9223372036854775807) (h : 400 < n ∨ 400 < m) :
    Calls Try.prog 6 #[.agg #[.slice A n c, .slice B m d]] w (TrueAns w) := by
  have K0 := Lib.hid (Bk.new w 25 #[.slice A n c, .slice B m d])
  have B0 := Lib.hid ((Below.refl w.heap.size w).alloc (Nat.le_refl _) (.cells #[.slice A n c, .slice B m d] 25))
  by_cases h1 : 400 < n
  · clear h
    go_enter Try.func6, Try.ntmps6
    go_wp2_with fail
    refine (live_any _).mono ?_
    rintro e w1 ⟨rfl, hb1⟩
    have HB1 := Lib.hid (below3 B0.out hb1)
    have K1 := K0.out.below hb1 K0.out.lt
    clear hb1
    have a0 := K1.c0
    have a1 := K1.c1
    clear K1
    go_wp2
    go_ret
    exact ⟨rfl, HB1.out⟩
  · have h2 : 400 < m := by omega
    clear h
    go_enter Try.func6, Try.ntmps6
    go_wp2_with fail
    refine (live_any _).mono ?_
    rintro e w1 ⟨rfl, hb1⟩
    have HB1 := Lib.hid (below3 B0.out hb1)
    have K1 := K0.out.below hb1 K0.out.lt
    clear hb1
    have a0 := K1.c0
    have a1 := K1.c1
    clear K1
    go_wp2
    go_ret
    exact ⟨rfl, HB1.out⟩

set_option maxRecDepth 100000 in
set_option maxHeartbeats 4000000 in
theorem lids_bad (A B : Option Addr) (n c m d : Nat) (gs : List Int) (ls : List Bool) (w : World) (hp : Plc w A n B m gs ls) (hn : n ≤ 400) (hm : m ≤ 400) (h : ¬ okS gs ls) :
    Calls Try.prog 6 #[.agg #[.slice A n c, .slice B m d]] w (TrueAns w) := by
  have K0 := Lib.hid (Bk.new w 25 #[.slice A n c, .slice B m d])
  have hb0 := (Below.refl w.heap.size w).alloc (Nat.le_refl _) (.cells #[.slice A n c, .slice B m d] 25)
  have B0 := Lib.hid hb0
  have HP := Lib.hid (hp.below hb0)
  have HE := Lib.hid (errS_no h)
  clear hp h hb0
  go_enter Try.func6, Try.ntmps6
  go_wp2_with fail
  refine (live_any _).mono ?_
  rintro e w1 ⟨rfl, hb1⟩
  have HB1 := Lib.hid (below3 B0.out hb1)
  have HP1 := Lib.hid (HP.out.below hb1)
  have K1 := Lib.hid (K0.out.below hb1 K0.out.lt)
  clear hb1
  have a0 := K1.out.c0
  have a1 := K1.out.c1
  go_wp2_with fail
  refine (ids_any A B n c m d gs ls _ HP1.out).mono ?_
  rw [HE.out]
  rintro e w2 ⟨A2, c2, rfl, ho2, hb2⟩
  have HB2 := Lib.hid (below3 HB1.out hb2)
  have HP2 := Lib.hid (HP1.out.below hb2)
  have K2 := Lib.hid (K1.out.below hb2 K1.out.lt)
  clear hb2 a0 a1 ho2 K1
  have a0 := K2.out.c0
  have a1 := K2.out.c1
  go_wp2_with fail
  refine (check_any A B n c m d gs ls _ HP2.out).mono ?_
  rintro e w3 ⟨rfl, hb3⟩
  rw [HE.out]
  have HB3 := Lib.hid (below3 HB2.out hb3)
  clear hb3 a0 a1
  go_wp2
  go_ret
  exact ⟨rfl, HB3.out⟩

set_option maxRecDepth 100000 in
set_option maxHeartbeats 4000000 in
theorem lids_good (A B : Option Addr) (n c m d : Nat) (gs : List Int) (ls : List Bool) (w : World) (hp : Plc w A n B m gs ls) (hn : n ≤ 400) (hm : m ≤ 400) (h : okS gs ls) :
    Calls Try.prog 6 #[.agg #[.slice A n c, .slice B m d]] w (TrueAns w) := by
  have K0 := Lib.hid (Bk.new w 25 #[.slice A n c, .slice B m d])
  have hb0 := (Below.refl w.heap.size w).alloc (Nat.le_refl _) (.cells #[.slice A n c, .slice B m d] 25)
  have B0 := Lib.hid hb0
  have hmn : m = n := by have := h.2.2.1; have := hp.g.1; have := hp.l.1; omega
  subst hmn
  have HP := Lib.hid (hp.below hb0)
  have HOK := Lib.hid h
  have HE := Lib.hid (errS_ok h)
  have HN := Lib.hid hp.g.1
  have HM := Lib.hid hp.l.1
  obtain ⟨l, hl⟩ : ∃ l, idsF gs ls = l := ⟨_, rfl⟩
  have HL := Lib.hid hl
  have hl2 : l = idsS gs ls gs.length := by rw [← hl, idsF, if_pos h]
  have HF := Lib.hid (show _ ∧ _ from hl2 ▸ idsS_facts h gs.length (Nat.le_refl _))
  obtain ⟨N, hN⟩ : ∃ N, l.length = N := ⟨_, rfl⟩
  have LN := Lib.hid hN
  have hN4 : N ≤ 400 := by rw [← hN, hl2]; have := idsS_len gs ls gs.length; have := hp.g.1; omega
  have HH : Hid (N = hereN ls m) := Lib.hid (by rw [← hN, hl2, idsS_here, hp.g.1])
  clear hp h hb0 hl hl2 hN
  go_enter Try.func6, Try.ntmps6
  go_wp2_with fail
  refine (live_any _).mono ?_
  rintro e w1 ⟨rfl, hb1⟩
  have HB1 := Lib.hid (below3 B0.out hb1)
  have HP1 := Lib.hid (HP.out.below hb1)
  have K1 := Lib.hid (K0.out.below hb1 K0.out.lt)
  clear hb1
  have a0 := K1.out.c0
  have a1 := K1.out.c1
  go_wp2_with fail
  refine (ids_any A B m c m d gs ls _ HP1.out).mono ?_
  rw [HE.out, HL.out]
  rintro e w2 ⟨A2, c2, rfl, ho2, hb2⟩
  rw [LN.out]
  have HB2 := Lib.hid (below3 HB1.out hb2)
  have HP2 := Lib.hid (HP1.out.below hb2)
  have K2 := Lib.hid (K1.out.below hb2 K1.out.lt)
  have HI2 : Hid (Ints w2 A2 N l) := Lib.hid (by have := ho2.ints; rwa [LN.out] at this)
  clear hb2 a0 a1 ho2 K1
  go_wp2
  go_loopw [6, 44] (fun u t wr => SIRel l N w2 u t wr) (fun _ t _ => N - (intOf t).toNat)
  case atStart => exact ⟨0, Nat.zero_le _, rfl, -1, rfl, by omega, by omega, Lib.hid (fun j _ _ => by omega), Below.refl _ _⟩
  case round =>
    obtain ⟨k, hk, rfl, last, rfl, hl1, hl2, HALL, hb⟩ := hrel
    have HB := Lib.hid hb
    have KR := Lib.hid (K2.out.below hb K2.out.lt)
    have PR := Lib.hid (HP2.out.below hb)
    have IR := Lib.hid (HI2.out.below hb)
    clear hb
    have a0 := KR.out.c0
    have a1 := KR.out.c1
    by_cases hlt : k < N
    · obtain ⟨b, o, rfl, hb, hc⟩ := IR.out.2.2.2 (by omega)
      have c1 := hc k hlt
      clear hc hb
      obtain ⟨x, hx⟩ : ∃ x, nth l k = x := ⟨_, rfl⟩
      have hxx := hx
      obtain ⟨i, hi, hbl, hxi⟩ := HF.out.1 k (by rw [LN.out]; exact hlt)
      rw [hx] at c1 hxi
      have hii := freeF_at HOK.out hi hbl
      have h256 := HOK.out.2.1
      have hpl := (id_place (gs := gs) (i := i) (by omega)).1
      have hg0 := (HOK.out.2.2.2 i hi).1
      rw [← hxi] at hii hpl
      have HFE := Lib.hid hii.1
      have HFN := Lib.hid hii.2.1
      have HFX : Hid (Fit x) := Lib.hid (by have := (HOK.out.2.2.2 i hi).2.1; rw [hxi]; unfold Fit idP; omega)
      have hx0 : 0 ≤ x := by rw [hxi]; unfold idP; omega
      have hli : last < (i : Int) := by have := HALL.out k (Nat.le_refl _) hlt; rw [hx, hpl] at this; exact this
      have hi255 : i ≤ 255 := by omega
      have HNX : Hid (∀ j, k + 1 ≤ j → j < N → (i : Int) < nth l j % 256) := Lib.hid (fun j h1 h2 => by
        have := HF.out.2 k j (by omega) (by rw [LN.out]; exact h2)
        rwa [hx, hpl] at this)
      clear hxi hii hbl hi hg0 h256 hx hxx
      go_wp2_with fail
      refine (find_any A B m c m d gs ls x _ PR.out HFX.out).mono ?_
      rintro e w3 ⟨rfl, hb3⟩
      rw [HFE.out, HFN.out]
      have HB3 := Lib.hid (below3 HB.out hb3)
      clear hb3 a0 a1 c1
      go_wp2
      go_roundw
      case rel => exact ⟨k + 1, by omega, by go_num, (i : Int), rfl, by omega, by omega, HNX, HB3.out⟩
      case measure => simp [intOf]; omega
    · go_wp2
      clear a0 a1
      go_loop [11, 72] (fun u t => SHRel ls m u t) (fun _ t => m - (intOf t).toNat)
      case atStart => exact ⟨0, Nat.zero_le _, rfl, 0, rfl, Nat.le_refl _, Lib.hid rfl⟩
      case round =>
        obtain ⟨j, hj, rfl, q, rfl, hqj, HQ⟩ := hrel
        by_cases hlt2 : j < m
        · obtain ⟨b', o', rfl, hb', hc'⟩ := PR.out.l.2.2 (by omega)
          have c2 := hc' j hlt2
          clear hc' hb'
          obtain ⟨y, hy⟩ : ∃ y, bth ls j = y := ⟨_, rfl⟩
          have HY := Lib.hid hy
          rw [hy] at c2
          clear hy
          cases y
          · have HQ2 : Hid (q = hereN ls (j + 1)) := Lib.hid (by rw [hereN_succ, if_neg (by rw [HY.out]; simp)]; exact HQ.out)
            go_wp2
            go_round
            case rel => exact ⟨j + 1, by omega, by go_num, q, rfl, by omega, HQ2⟩
            case measure => simp [intOf]; omega
          · have HQ2 : Hid (q + 1 = hereN ls (j + 1)) := Lib.hid (by rw [hereN_succ, if_pos HY.out, ← HQ.out])
            go_wp2
            go_round
            case rel => exact ⟨j + 1, by omega, by go_num, q + 1, by go_num, by omega, HQ2⟩
            case measure => simp [intOf]; omega
        · obtain rfl : j = m := by omega
          have hq : q = N := HQ.out.trans HH.out.symm
          subst hq
          have HBB := Lib.hid (below3 HB2.out HB.out)
          go_wp2
          go_ret
          exact ⟨rfl, HBB.out⟩

theorem lids_any (A B : Option Addr) (n c m d : Nat) (gs : List Int) (ls : List Bool) (w : World) (hn : n ≤ 9223372036854775807) (hm : m ≤ 9223372036854775807) (hp : n ≤ 400 → m ≤ 400 → Plc w A n B m gs ls) :
    Calls Try.prog 6 #[.agg #[.slice A n c, .slice B m d]] w (TrueAns w) := by
  by_cases h : 400 < n ∨ 400 < m
  · exact lids_long A B n c m d w hn hm h
  · by_cases hok : okS gs ls
    · exact lids_good A B n c m d gs ls w (hp (by omega) (by omega)) (by omega) (by omega) hok
    · exact lids_bad A B n c m d gs ls w (hp (by omega) (by omega)) (by omega) (by omega) hok

end Go.Proofs.Ytfaajimmammfdaa

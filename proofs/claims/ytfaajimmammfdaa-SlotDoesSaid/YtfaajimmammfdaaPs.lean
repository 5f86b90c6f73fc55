/-
  Contracts of layer 5's functions that hold slices, and places, against one another: the program's and the document's.
-/
import Derived.Test.YtfaajimmammfdaaPa
import Derived.Deep.QuietTactic
import Derived.BigQuiet
namespace Go.Proofs.Ytfaajimmammfdaa
open Go.RowKit

def sameF (xs ys : List Bool) : Bool := decide (xs = ys)
theorem sameF_refl (xs : List Bool) : sameF xs xs = true := decide_eq_true rfl
theorem sameF_len {xs ys : List Bool} (h : xs.length ≠ ys.length) : sameF xs ys = false := decide_eq_false (fun e => h (by rw [e]))
theorem sameF_at {xs ys : List Bool} (k : Nat) (h : bth xs k ≠ bth ys k) : sameF xs ys = false := decide_eq_false (fun e => h (by rw [e]))
theorem sameF_all {xs ys : List Bool} {n : Nat} (h1 : xs.length = n) (h2 : ys.length = n) (h : ∀ j, j < n → bth xs j = bth ys j) : sameF xs ys = true :=
  decide_eq_true (ext_bth (by omega) fun i hi => h i (by omega))
/-- Are two pairs of lists the same? -/
def sameS (gs gs' : List Int) (ls ls' : List Bool) : Bool := sameB gs gs' && sameF ls ls'
theorem sameS_refl (gs : List Int) (ls : List Bool) : sameS gs gs ls ls = true := by simp [sameS, sameB_refl, sameF_refl]

set_option maxHeartbeats 400000 in
theorem equalI_any (A A' : Option Addr) (n c n' c' : Nat) (xs ys : List Int) (w : World) (hx : Ints w A n xs) (hy : Ints w A' n' ys) :
    Calls Try.prog 29 #[.slice A n c, .slice A' n' c'] w (RetB (.bool (sameB xs ys)) w) := by
  obtain ⟨lx, bx, _, cx⟩ := hx
  obtain ⟨ly, by_, _, cy⟩ := hy
  by_cases hn : n = n'
  · subst hn
    have CX := Lib.hid cx
    have CY := Lib.hid cy
    have LX := Lib.hid lx
    have LY := Lib.hid ly
    clear cx cy lx ly
    go_enter Try.func29, Try.ntmps29
    go_wp2
    go_loopw [13] (fun t wr => ∃ k : Nat, k ≤ n ∧ t = .int .i64 k ∧ (∃ d, wr = w.drewN d) ∧ Hid (∀ j, j < k → nth xs j = nth ys j)) (fun t _ => n - (intOf t).toNat)
    case atStart => exact ⟨0, Nat.zero_le _, rfl, ⟨0, rfl⟩, fun j hj => by omega⟩
    case round =>
      obtain ⟨k, hk, rfl, ⟨d, rfl⟩, hall⟩ := hrel
      by_cases hlt : k < n
      · obtain ⟨b, o, rfl, hb, hc⟩ := CX.out (by omega)
        obtain ⟨b', o', rfl, hb', hc'⟩ := CY.out (by omega)
        have c1 := hc k hlt
        have c2 := hc' k hlt
        clear hc hc'
        by_cases he : nth xs k = nth ys k
        · have hs : (nth xs k != nth ys k) = false := by rw [he]; simp
          go_wp2
          go_quiet (fail)
          go_wp2
          go_roundw
          case rel => exact ⟨k + 1, by omega, by go_num, ⟨_, rfl⟩, fun j hj => by rcases Nat.lt_or_ge j k with h | h; exact hall j h; rwa [show j = k from by omega]⟩
          case measure => simp [intOf]; omega
        · have hs : (nth xs k != nth ys k) = true := by simpa using he
          have HF := Lib.hid (sameB_at k he)
          clear he
          go_wp2
          go_quiet (fail)
          go_wp2
          go_ret
          exact RetB.of (ret_bool HF.out.symm) (below_drewN (below_drewN (Below.refl _ _) d) _)
      · have : k = n := by omega
        subst this
        have HF := Lib.hid (sameB_all LX.out LY.out hall)
        go_wp2
        go_ret
        exact RetB.of (ret_bool HF.out.symm) (below_drewN (Below.refl _ _) d)
  · have hne : ((n : Int) != (n' : Int)) = true := by simp; omega
    have hf : sameB xs ys = false := sameB_len (by omega)
    have HF := Lib.hid hf
    clear hf lx ly
    go_enter Try.func29, Try.ntmps29
    go_wp2
    go_ret
    exact RetB.of (ret_bool HF.out.symm) (Below.refl _ _)

set_option maxHeartbeats 400000 in
theorem equalF_any (A A' : Option Addr) (n c n' c' : Nat) (xs ys : List Bool) (w : World) (hx : Flags w A n xs) (hy : Flags w A' n' ys) :
    Calls Try.prog 30 #[.slice A n c, .slice A' n' c'] w (RetB (.bool (sameF xs ys)) w) := by
  obtain ⟨lx, bx, cx⟩ := hx
  obtain ⟨ly, by_, cy⟩ := hy
  by_cases hn : n = n'
  · subst hn
    have CX := Lib.hid cx
    have CY := Lib.hid cy
    have LX := Lib.hid lx
    have LY := Lib.hid ly
    clear cx cy lx ly
    go_enter Try.func30, Try.ntmps30
    go_wp2
    go_loopw [13] (fun t wr => ∃ k : Nat, k ≤ n ∧ t = .int .i64 k ∧ (∃ d, wr = w.drewN d) ∧ Hid (∀ j, j < k → bth xs j = bth ys j)) (fun t _ => n - (intOf t).toNat)
    case atStart => exact ⟨0, Nat.zero_le _, rfl, ⟨0, rfl⟩, fun j hj => by omega⟩
    case round =>
      obtain ⟨k, hk, rfl, ⟨d, rfl⟩, hall⟩ := hrel
      by_cases hlt : k < n
      · obtain ⟨b, o, rfl, hb, hc⟩ := CX.out (by omega)
        obtain ⟨b', o', rfl, hb', hc'⟩ := CY.out (by omega)
        have c1 := hc k hlt
        have c2 := hc' k hlt
        clear hc hc'
        by_cases he : bth xs k = bth ys k
        · have hs : (bth xs k != bth ys k) = false := by rw [he]; simp
          go_wp2
          go_quiet (fail)
          go_wp2
          go_roundw
          case rel => exact ⟨k + 1, by omega, by go_num, ⟨_, rfl⟩, fun j hj => by rcases Nat.lt_or_ge j k with h | h; exact hall j h; rwa [show j = k from by omega]⟩
          case measure => simp [intOf]; omega
        · have hs : (bth xs k != bth ys k) = true := by simpa using he
          have hs2 : (!bth xs k == bth ys k) = true := by revert he; cases bth xs k <;> cases bth ys k <;> simp
          have HF := Lib.hid (sameF_at k he)
          clear he
          go_wp2
          go_quiet (fail)
          go_wp2
          go_ret
          exact RetB.of (ret_bool HF.out.symm) (below_drewN (below_drewN (Below.refl _ _) d) _)
      · have : k = n := by omega
        subst this
        have HF := Lib.hid (sameF_all LX.out LY.out hall)
        go_wp2
        go_ret
        exact RetB.of (ret_bool HF.out.symm) (below_drewN (Below.refl _ _) d)
  · have hne : ((n : Int) != (n' : Int)) = true := by simp; omega
    have hf : sameF xs ys = false := sameF_len (by omega)
    have HF := Lib.hid hf
    clear hf lx ly
    go_enter Try.func30, Try.ntmps30
    go_wp2
    go_ret
    exact RetB.of (ret_bool HF.out.symm) (Below.refl _ _)

set_option maxHeartbeats 400000 in
theorem rsame01_any (A A' : Option Addr) (n c n' c' : Nat) (xs ys : List Int) (w : World) (hx : Ints w A n xs) (hy : Ints w A' n' ys) :
    Calls Try.prog 21 #[.slice A n c, .slice A' n' c'] w (RetB (.bool (sameB xs ys)) w) := by
  obtain ⟨lx, bx, _, cx⟩ := hx
  obtain ⟨ly, by_, _, cy⟩ := hy
  by_cases hn : n = n'
  · subst hn
    have CX := Lib.hid cx
    have CY := Lib.hid cy
    have LX := Lib.hid lx
    have LY := Lib.hid ly
    clear cx cy lx ly
    go_enter Try.func21, Try.ntmps21
    go_wp2
    go_loopw [13] (fun t wr => ∃ k : Nat, k ≤ n ∧ t = .int .i64 k ∧ (∃ d, wr = w.drewN d) ∧ Hid (∀ j, j < k → nth xs j = nth ys j)) (fun t _ => n - (intOf t).toNat)
    case atStart => exact ⟨0, Nat.zero_le _, rfl, ⟨0, rfl⟩, fun j hj => by omega⟩
    case round =>
      obtain ⟨k, hk, rfl, ⟨d, rfl⟩, hall⟩ := hrel
      by_cases hlt : k < n
      · obtain ⟨b, o, rfl, hb, hc⟩ := CX.out (by omega)
        obtain ⟨b', o', rfl, hb', hc'⟩ := CY.out (by omega)
        have c1 := hc k hlt
        have c2 := hc' k hlt
        clear hc hc'
        by_cases he : nth xs k = nth ys k
        · have hs : (nth xs k != nth ys k) = false := by rw [he]; simp
          go_wp2
          go_quiet (fail)
          go_wp2
          go_roundw
          case rel => exact ⟨k + 1, by omega, by go_num, ⟨_, rfl⟩, fun j hj => by rcases Nat.lt_or_ge j k with h | h; exact hall j h; rwa [show j = k from by omega]⟩
          case measure => simp [intOf]; omega
        · have hs : (nth xs k != nth ys k) = true := by simpa using he
          have HF := Lib.hid (sameB_at k he)
          clear he
          go_wp2
          go_quiet (fail)
          go_wp2
          go_ret
          exact RetB.of (ret_bool HF.out.symm) (below_drewN (below_drewN (Below.refl _ _) d) _)
      · have : k = n := by omega
        subst this
        have HF := Lib.hid (sameB_all LX.out LY.out hall)
        go_wp2
        go_ret
        exact RetB.of (ret_bool HF.out.symm) (below_drewN (Below.refl _ _) d)
  · have hne : ((n : Int) != (n' : Int)) = true := by simp; omega
    have hf : sameB xs ys = false := sameB_len (by omega)
    have HF := Lib.hid hf
    clear hf lx ly
    go_enter Try.func21, Try.ntmps21
    go_wp2
    go_ret
    exact RetB.of (ret_bool HF.out.symm) (Below.refl _ _)

set_option maxHeartbeats 1000000 in
theorem same_any (A B A' B' : Option Addr) (n c m d n' c' m' d' : Nat) (gs gs' : List Int) (ls ls' : List Bool) (w : World) (hp : Plc w A n B m gs ls) (hq : Plc w A' n' B' m' gs' ls') :
    Calls Try.prog 24 #[.agg #[.slice A n c, .slice B m d], .agg #[.slice A' n' c', .slice B' m' d']] w (RetB (.bool (sameS gs gs' ls ls')) w) := by
  have K1 := Lib.hid (Bk.alloc (Bk.new w 25 #[.slice A n c, .slice B m d]) (.cells #[.slice A' n' c', .slice B' m' d'] 25))
  have k2 := Bk.new (w.alloc (.cells #[.slice A n c, .slice B m d] 25)) 25 #[.slice A' n' c', .slice B' m' d']
  rw [size_alloc] at k2
  have K2 := Lib.hid k2
  have HB := Lib.hid (((Below.refl w.heap.size w).alloc (Nat.le_refl _) (.cells #[.slice A n c, .slice B m d] 25)).alloc (by simp) (.cells #[.slice A' n' c', .slice B' m' d'] 25))
  have HP := Lib.hid (hp.below HB.out)
  have HQ := Lib.hid (hq.below HB.out)
  clear hp hq k2
  have a0 := K1.out.c0
  have a1 := K1.out.c1
  have b0 := K2.out.c0
  have b1 := K2.out.c1
  go_enter Try.func24, Try.ntmps24
  go_wp2_with fail
  refine (equalI_any A A' n c n' c' gs gs' _ HP.out.g HQ.out.g).mono ?_
  rintro e w1 ⟨rfl, hb1⟩
  have HB1 := Lib.hid (below3 HB.out hb1)
  have HP1 := Lib.hid (HP.out.below hb1)
  have HQ1 := Lib.hid (HQ.out.below hb1)
  have k1' := K1.out.below hb1 K1.out.lt
  have k2' := K2.out.below hb1 K2.out.lt
  clear hb1 a0 a1 b0 b1 HB HP HQ
  have a1 := k1'.c1
  have b1 := k2'.c1
  clear k1' k2'
  obtain ⟨x, hx⟩ : ∃ x, sameB gs gs' = x := ⟨_, rfl⟩
  have HX := Lib.hid (show sameS gs gs' ls ls' = (x && sameF ls ls') by rw [sameS, hx])
  rw [hx]
  clear hx
  cases x
  · go_wp2
    go_ret
    rw [HX.out]
    exact RetB.of rfl HB1.out
  · go_wp2_with fail
    refine (equalF_any B B' m d m' d' ls ls' _ HP1.out.l HQ1.out.l).mono ?_
    rintro e w2 ⟨rfl, hb2⟩
    have HB2 := Lib.hid (below3 HB1.out hb2)
    clear hb2
    go_wp2
    go_ret
    rw [HX.out]
    exact RetB.of rfl HB2.out

/-- The relation of the loop of the document's Same. -/
def SmRel (ls ls' : List Bool) (n : Nat) (w : World) (t : Value) (wr : World) : Prop := ∃ k : Nat, k ≤ n ∧ t = .int .i64 k ∧ (∃ d, wr = w.drewN d) ∧ Hid (∀ j, j < k → bth ls j = bth ls' j)

set_option maxHeartbeats 1000000 in
theorem rsame_any (A B A' B' : Option Addr) (n c m d n' c' m' d' : Nat) (gs gs' : List Int) (ls ls' : List Bool) (w : World) (hp : Plc w A n B m gs ls) (hq : Plc w A' n' B' m' gs' ls') :
    Calls Try.prog 20 #[.agg #[.slice A n c, .slice B m d], .agg #[.slice A' n' c', .slice B' m' d']] w (RetB (.bool (sameS gs gs' ls ls')) w) := by
  have K1 := Lib.hid (Bk.alloc (Bk.new w 25 #[.slice A n c, .slice B m d]) (.cells #[.slice A' n' c', .slice B' m' d'] 25))
  have k2 := Bk.new (w.alloc (.cells #[.slice A n c, .slice B m d] 25)) 25 #[.slice A' n' c', .slice B' m' d']
  rw [size_alloc] at k2
  have K2 := Lib.hid k2
  have HB := Lib.hid (((Below.refl w.heap.size w).alloc (Nat.le_refl _) (.cells #[.slice A n c, .slice B m d] 25)).alloc (by simp) (.cells #[.slice A' n' c', .slice B' m' d'] 25))
  have HP := Lib.hid (hp.below HB.out)
  have HQ := Lib.hid (hq.below HB.out)
  have hm := hp.l.2.1
  have hm' := hq.l.2.1
  clear hp hq k2
  have a0 := K1.out.c0
  have a1 := K1.out.c1
  have b0 := K2.out.c0
  have b1 := K2.out.c1
  go_enter Try.func20, Try.ntmps20
  go_wp2_with fail
  refine (rsame01_any A A' n c n' c' gs gs' _ HP.out.g HQ.out.g).mono ?_
  rintro e w1 ⟨rfl, hb1⟩
  have HB1 := Lib.hid (below3 HB.out hb1)
  have HP1 := Lib.hid (HP.out.below hb1)
  have HQ1 := Lib.hid (HQ.out.below hb1)
  have KK1 := Lib.hid (K1.out.below hb1 K1.out.lt)
  have KK2 := Lib.hid (K2.out.below hb1 K2.out.lt)
  clear hb1 a0 a1 b0 b1 HB HP HQ K1 K2
  have a1 := KK1.out.c1
  have b1 := KK2.out.c1
  obtain ⟨x, hx⟩ : ∃ x, sameB gs gs' = x := ⟨_, rfl⟩
  have HX := Lib.hid (show sameS gs gs' ls ls' = (x && sameF ls ls') by rw [sameS, hx])
  rw [hx]
  clear hx
  cases x
  · go_wp2
    go_ret
    rw [HX.out]
    exact RetB.of rfl HB1.out
  · by_cases hmm : m = m'
    · subst hmm
      go_wp2
      go_loopw [24] (fun t wr => SmRel ls ls' m w1 t wr) (fun t _ => m - (intOf t).toNat)
      case atStart => exact ⟨0, Nat.zero_le _, rfl, ⟨0, rfl⟩, fun j hj => by omega⟩
      case round =>
        obtain ⟨k, hk, rfl, ⟨D, rfl⟩, hall⟩ := hrel
        by_cases hlt : k < m
        · obtain ⟨b, o, rfl, hb, hc⟩ := HP1.out.l.2.2 (by omega)
          obtain ⟨b', o', rfl, hb', hc'⟩ := HQ1.out.l.2.2 (by omega)
          have c1 := hc k hlt
          have c2 := hc' k hlt
          clear hc hc'
          by_cases he : bth ls k = bth ls' k
          · have hs : (bth ls k != bth ls' k) = false := by rw [he]; simp
            go_wp2
            go_quiet (fail)
            go_wp2
            go_roundw
            case rel => exact ⟨k + 1, by omega, by go_num, ⟨_, rfl⟩, fun j hj => by rcases Nat.lt_or_ge j k with h | h; exact hall j h; rwa [show j = k from by omega]⟩
            case measure => simp [intOf]; omega
          · have hs : (bth ls k != bth ls' k) = true := by simpa using he
            have hs2 : (!bth ls k == bth ls' k) = true := by revert he; cases bth ls k <;> cases bth ls' k <;> simp
            have HF := Lib.hid (sameF_at k he)
            clear he
            go_wp2
            go_quiet (fail)
            go_wp2
            go_ret
            rw [HX.out, HF.out]
            exact RetB.of rfl (below_drewN (below_drewN HB1.out D) _)
        · have : k = m := by omega
          subst this
          have HF := Lib.hid (sameF_all HP1.out.l.1 HQ1.out.l.1 hall)
          go_wp2
          go_ret
          rw [HX.out, HF.out]
          exact RetB.of rfl (below_drewN HB1.out D)
    · have hne : ((m : Int) != (m' : Int)) = true := by simp; omega
      have HF := Lib.hid (sameF_len (xs := ls) (ys := ls') (by rw [HP1.out.l.1, HQ1.out.l.1]; exact hmm))
      go_wp2
      go_ret
      rw [HX.out, HF.out]
      exact RetB.of rfl HB1.out

end Go.Proofs.Ytfaajimmammfdaa

/-
  The contracts of dice.Same, of sameInts, and of the chapter's examples, which each law of layer 3 plays first.
-/
import Derived.Test.YtllanhboaoedmaaHeavy2
import Derived.Test.YtllanhboaoedmaaOrder
namespace Go.Proofs.Ytllanhboaoedmaa
open Go.RowKit

/-- Are two dice the same? (A word that the walk does not open.) -/
def dsame (p q : Int) (xs ys : List Int) : Bool := decide (p = q) && sameB xs ys

theorem dsame_refl (p : Int) (xs : List Int) : dsame p p xs xs = true := by unfold dsame; rw [sameB_refl]; simp

set_option maxHeartbeats 800000 in
theorem same_any (A B : Option Addr) (n m c d : Nat) (p q : Int) (xs ys : List Int) (w : World) (hx : Octs w A n xs) (hy : Octs w B m ys) :
    Calls Try.prog 20 #[.agg #[.slice A n c, .int .i64 p], .agg #[.slice B m d, .int .i64 q]] w (RetB (.bool (dsame p q xs ys)) w) := by
  have hb := ((Below.refl w.heap.size w).alloc (Nat.le_refl _) (.cells #[.slice A n c, .int .i64 p] 24)).alloc (by simp) (.cells #[.slice B m d, .int .i64 q] 24)
  have HX := Lib.hid (hx.below hb)
  have HY := Lib.hid (hy.below hb)
  have HB := Lib.hid hb
  clear hx hy hb
  by_cases h : p = q
  · subst h
    have HS : Hid (dsame p p xs ys = sameB xs ys) := Lib.hid (by unfold dsame; simp)
    go_enter Try.func20, Try.ntmps20
    go_wp2_with fail
    refine (equal_any A B n m c d xs ys _ HX.out HY.out).mono ?_
    rintro e w' ⟨rfl, rfl⟩
    go_wp2
    go_ret
    exact RetB.of (ret_bool HS.out.symm) HB.out
  · have HS : Hid (dsame p q xs ys = false) := Lib.hid (by unfold dsame; rw [decide_eq_false h]; rfl)
    have e1 : (p == q) = false := by simpa using h
    go_enter Try.func20, Try.ntmps20
    go_wp2
    go_ret
    exact RetB.of (ret_bool HS.out.symm) HB.out

theorem below_drewN {B : Nat} {a w : World} (h : Below B a w) (n : Nat) : Below B a (w.drewN n) := ⟨h.os, h.tape, h.output, h.size, h.block⟩

set_option maxHeartbeats 400000 in
theorem sameInts_any (A A' : Option Addr) (n c n' c' : Nat) (xs ys : List Int) (w : World) (hx : Ints w A n xs) (hy : Ints w A' n' ys) :
    Calls Try.prog 17 #[.slice A n c, .slice A' n' c'] w (RetB (.bool (sameB xs ys)) w) := by
  obtain ⟨lx, bx, _, cx⟩ := hx
  obtain ⟨ly, by_, _, cy⟩ := hy
  by_cases hn : n = n'
  · subst hn
    have CX := Lib.hid cx
    have CY := Lib.hid cy
    have LX := Lib.hid lx
    have LY := Lib.hid ly
    clear cx cy lx ly
    go_enter Try.func17, Try.ntmps17
    go_wp2
    go_loopw [13] (fun t wr => ∃ k : Nat, k ≤ n ∧ t = .int .i64 k ∧ (∃ d, wr = w.drewN d) ∧ Hid (∀ j, j < k → nth xs j = nth ys j)) (fun t _ => n - (intOf t).toNat)
    case atStart => exact ⟨0, Nat.zero_le _, rfl, ⟨0, rfl⟩, fun j hj => by omega⟩
    case round =>
      obtain ⟨k, hk, rfl, ⟨d, rfl⟩, hall⟩ := hrel
      by_cases hlt : k < n
      · obtain ⟨b, o, rfl, hb, hc⟩ := CX.out (by omega)
        obtain ⟨b', o', rfl, hb', hc'⟩ := CY.out (by omega)
        have c1 := hc k hlt
        have c2 := hc' k hlt
        clear hc hc'
        by_cases he : nth xs k = nth ys k
        · have hs : (nth xs k != nth ys k) = false := by rw [he]; simp
          go_wp2
          go_quiet (fail)
          go_wp2
          go_roundw
          case rel => exact ⟨k + 1, by omega, by go_num, ⟨_, rfl⟩, fun j hj => by rcases Nat.lt_or_ge j k with h | h; exact hall j h; rwa [show j = k from by omega]⟩
          case measure => simp [intOf]; omega
        · have hs : (nth xs k != nth ys k) = true := by simpa using he
          go_wp2
          go_quiet (fail)
          go_wp2
          go_ret
          exact RetB.of (ret_bool (sameB_at k he).symm) (below_drewN (below_drewN (Below.refl _ _) _) _)
      · have : k = n := by omega
        subst this
        have HF := Lib.hid (sameB_all LX.out LY.out hall)
        go_wp2
        go_ret
        exact RetB.of (ret_bool HF.out.symm) (below_drewN (Below.refl _ _) _)
  · have hne : ((n : Int) != (n' : Int)) = true := by simp; omega
    have hf : sameB xs ys = false := sameB_len (by omega)
    have HF := Lib.hid hf
    clear hf lx ly
    go_enter Try.func17, Try.ntmps17
    go_wp2
    go_ret
    exact RetB.of (ret_bool HF.out.symm) (Below.refl _ _)

theorem octs2 {w : World} {g : Nat} {t : TypeId} {a b : Int} (h : Bk w g t #[.int .u8 a, .int .u8 b]) (ha : Oct a) (hb : Oct b) : Octs w (some ⟨g, 0, none⟩) 2 [a, b] := by
  refine ⟨rfl, by omega, by simp [ha, hb], fun _ => ⟨g, 0, rfl, h.lt, fun j hj => ?_⟩⟩
  rw [Nat.zero_add, h.cell]
  match j, hj with
  | 0, _ => rfl
  | 1, _ => rfl

theorem ints3 {w : World} {g : Nat} {t : TypeId} {a b c : Int} (h : Bk w g t #[.int .i64 a, .int .i64 b, .int .i64 c]) (ha : Fit a) (hb : Fit b) (hc : Fit c) : Ints w (some ⟨g, 0, none⟩) 3 [a, b, c] := by
  refine ⟨rfl, by omega, by simp [ha, hb, hc], fun _ => ⟨g, 0, rfl, h.lt, fun j hj => ?_⟩⟩
  rw [Nat.zero_add, h.cell]
  match j, hj with
  | 0, _ => rfl
  | 1, _ => rfl
  | 2, _ => rfl

/-- Below, at whatever way of writing where the dice stand. -/
theorem below_at (A : Option Addr) (n c p : Nat) (z : Int) (bs : List Int) (m k : Int) (w : World) (hz : z = (p : Int)) (ho : Octs w A n bs) (hp : p ≤ n) (hm : 1 ≤ m) (hM : m ≤ 65536) (hk : drawAt bs p % m = k) :
    Calls Try.prog 10 #[.agg #[.slice A n c, .int .i64 z], .int .i64 m] w (TripD (.int .i64 k) bs (min (p + 2) n : Nat) 0 w) := by
  subst hz hk
  exact below_ok A n c p bs m w ho hp hm hM

theorem heavy_at (A B : Option Addr) (n c p m d : Nat) (z k : Int) (bs ws : List Int) (w : World) (hz : z = (p : Int)) (ho : Octs w A n bs) (hp : p ≤ n) (hw : Ints w B m ws) (hE : weightE ws = 0) (hk : (pick ws (drawAt bs p % ws.sum) : Int) = k) :
    Calls Try.prog 14 #[.agg #[.slice A n c, .int .i64 z], .slice B m d] w (TripD (.int .i64 k) bs (min (p + 2) n : Nat) 0 w) := by
  subst hz hk
  exact heavy_ok A B n c p m d bs ws w ho hp hw hE

theorem size_alloc (w : World) (o : Obj) : (w.alloc o).heap.size = w.heap.size + 1 := by simp

set_option maxHeartbeats 800000 in
theorem live_any (w : World) : Calls Try.prog 9 #[] w (RetB (.bool true) w) := by
  have k0 := Bk.new w 5 #[.int .u8 0, .int .u8 7]
  have b0 := Lib.hid ((Below.refl w.heap.size w).alloc (Nat.le_refl _) (.cells #[.int .u8 0, .int .u8 7] 5))
  have o0 := Lib.hid (octs2 k0 (by unfold Oct; omega) (by unfold Oct; omega))
  clear k0
  go_enter Try.func9, Try.ntmps9
  go_wp2_with fail
  refine (below_at _ 2 2 0 0 [0, 7] 10 7 _ rfl o0.out (by omega) (by omega) (by omega) (by decide)).mono ?_
  rintro e w1 ⟨A1, c1, rfl, -, hb1⟩
  have b1 := Lib.hid (below3 b0.out hb1)
  clear hb1 b0 o0
  obtain ⟨k1, k2, b2⟩ := lies2 (w1.alloc (.cells #[.slice A1 2 c1, .int .i64 2] 24)) #[.int .u8 0, .int .u8 2] #[.int .i64 2, .int .i64 0, .int .i64 3] 5 3
  simp only [size_alloc] at k1 k2 b2
  have o1 := Lib.hid (octs2 k1 (by unfold Oct; omega) (by unfold Oct; omega))
  have o2 := Lib.hid (ints3 k2 (by unfold Fit; omega) (by unfold Fit; omega) (by unfold Fit; omega))
  have b2 := Lib.hid (b1.out.trans (((Below.refl w1.heap.size w1).alloc (Nat.le_refl _) _).trans (b2.mono (Nat.le_succ _)) |>.mono b1.out.size))
  clear k1 k2 b1
  go_wp2_with fail
  refine (heavy_at _ _ 2 2 0 3 3 0 2 [0, 2] [2, 0, 3] _ rfl o1.out (by omega) o2.out (by decide) (by decide)).mono ?_
  rintro e w2 ⟨A2, c2, rfl, -, hb2⟩
  have b3 := Lib.hid (below_alloc (below3 b2.out hb2) (.cells #[.slice A2 2 c2, .int .i64 2] 24))
  clear hb2 o1 o2
  go_wp2
  go_ret
  exact RetB.of rfl b3.out

end Go.Proofs.Ytllanhboaoedmaa

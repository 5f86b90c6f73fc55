/-
  The contract of the document's Ids of layer 5.
-/
import Derived.Test.YtfaajimmammfdaaPj
namespace Go.Proofs.Ytfaajimmammfdaa
open Go.RowKit

set_option maxHeartbeats 2000000 in
theorem rids_bad (A B : Option Addr) (n c m d : Nat) (gs : List Int) (ls : List Bool) (w : World) (hp : Plc w A n B m gs ls) (h : ¬ okS gs ls) :
    Calls Try.prog 19 #[.agg #[.slice A n c, .slice B m d]] w (IAns [] 1 w) := by
  have hb0 := (Below.refl w.heap.size w).alloc (Nat.le_refl _) (.cells #[.slice A n c, .slice B m d] 25)
  have HP := Lib.hid (hp.below hb0)
  have B0 := Lib.hid hb0
  have HE := Lib.hid (errS_no h)
  clear hp hb0 h
  go_enter Try.func19, Try.ntmps19
  go_wp2_with fail
  refine (rcheck_any A B n c m d gs ls _ HP.out).mono ?_
  rintro e w1 ⟨rfl, hb1⟩
  rw [HE.out]
  have B1 := Lib.hid (below3 B0.out hb1)
  clear hb1
  go_wp2
  go_ret2
  exact ⟨none, 0, rfl, OwnI.nil_ _ _ _, B1.out⟩

set_option maxHeartbeats 4000000 in
theorem rids_good (A B : Option Addr) (n c m d : Nat) (gs : List Int) (ls : List Bool) (w : World) (hp : Plc w A n B m gs ls) (h : okS gs ls) :
    Calls Try.prog 19 #[.agg #[.slice A n c, .slice B m d]] w (IAns (idsS gs ls gs.length) 0 w) := by
  have hb0 := (Below.refl w.heap.size w).alloc (Nat.le_refl _) (.cells #[.slice A n c, .slice B m d] 25)
  have hmn : m = n := by have := h.2.2.1; have := hp.g.1; have := hp.l.1; omega
  subst hmn
  have hm : m ≤ 256 := by have := h.2.1; have := hp.g.1; omega
  have HN := Lib.hid hp.g.1
  have HP := Lib.hid (hp.below hb0)
  have B0 := Lib.hid hb0
  have K1 := Lib.hid (Bk.new w 25 #[.slice A m c, .slice B m d])
  have HE := Lib.hid (errS_ok h)
  have HOK := Lib.hid h
  have a0 := K1.out.c0
  have a1 := K1.out.c1
  clear hp hb0 h
  go_enter Try.func19, Try.ntmps19
  go_wp2_with fail
  refine (rcheck_any A B m c m d gs ls _ HP.out).mono ?_
  rintro e w1 ⟨rfl, hb1⟩
  rw [HE.out]
  have B1 := Lib.hid (below3 B0.out hb1)
  have P1 := Lib.hid (HP.out.below hb1)
  have J1 := Lib.hid (K1.out.below hb1 K1.out.lt)
  clear hb1 K1 a0 a1 HP B0
  have a0 := J1.out.c0
  have a1 := J1.out.c1
  go_wp2
  clear a0 a1
  go_loopw [4, 13] (fun u t wr => IdRel gs ls m w1 u t wr) (fun _ t _ => m - (intOf t).toNat)
  case atStart => exact ⟨0, Nat.zero_le _, rfl, none, 0, 0, [], rfl, Lib.hid ⟨rfl, rfl⟩, OwnI.nil_ _ _ _, Below.refl _ _⟩
  case round =>
    obtain ⟨k, hk, rfl, D, e', z, ys, rfl, HY, ho, hb⟩ := hrel
    have HO := Lib.hid ho
    have HB := Lib.hid hb
    have HLZ := Lib.hid HY.out.2
    have hz := ids_short HY.out
    clear ho hb
    by_cases hlt : k < m
    · obtain ⟨b, o, rfl, hb, hc⟩ := (P1.out.below HB.out).g.2.2.2 (by omega)
      obtain ⟨b', o', rfl, hb', hc'⟩ := (P1.out.below HB.out).l.2.2 (by omega)
      have c1 := hc k hlt
      have c2 := hc' k hlt
      have KR := J1.out.below HB.out J1.out.lt
      have a0 := KR.c0
      have a1 := KR.c1
      obtain ⟨x, hx⟩ : ∃ x, nth gs k = x := ⟨_, rfl⟩
      obtain ⟨y, hy⟩ : ∃ y, bth ls k = y := ⟨_, rfl⟩
      have HX := Lib.hid hx
      have HYY := Lib.hid hy
      obtain ⟨x0, x1, -⟩ := HOK.out.2.2.2 k (by rw [HN.out]; exact hlt)
      rw [hx] at c1 x0 x1
      rw [hy] at c2
      clear hc hb hc' hb' hx hy KR
      cases y
      · have HY2 := Lib.hid (ids_no HY.out HYY.out)
        go_wp2
        go_roundw
        case rel => exact ⟨k + 1, by omega, by go_num, D, e', z, ys, rfl, HY2, HO.out, HB.out⟩
        case measure => simp [intOf]; omega
      · have HY2 := Lib.hid (ids_yes HY.out HYY.out)
        have HFI := Lib.hid (fit_id HOK.out (by rw [HN.out]; exact hlt))
        have HID : Hid (256 * x + (k : Int) = idP gs k) := Lib.hid (by unfold idP; rw [HX.out])
        have HFX : Hid (Fit (256 * x + (k : Int))) := Lib.hid (by rw [HID.out]; exact HFI.out)
        have HA := Lib.hid (HO.out.below ((Below.refl wr.heap.size wr).alloc (Nat.le_refl _) (.cells #[.int .i64 (256 * x + (k : Int))] 2)))
        have HBA := Lib.hid (HB.out.alloc HB.out.size (.cells #[.int .i64 (256 * x + (k : Int))] 2))
        go_wp2_with (at_builtin; refine wpList_append_ints _ rfl _ _ 22 rfl 2 Try.underlying22 Try.intsInfo w1.heap.size D e' ys z HLZ.out.symm rfl HA.out (some ⟨wr.heap.size, 0, none⟩) 1 1 [256 * x + (k : Int)] rfl (ints1 wr 2 HFX.out) (by rw [HLZ.out]; omega) HBA.out.size ?_)
        intro A1 c1 w3 ho3 hg3
        rw [HID.out] at ho3
        have HO3 := Lib.hid ho3
        have HB3 := Lib.hid (HBA.out.grown hg3 HBA.out.size HA.out.block)
        clear ho3 hg3
        rw [HLZ.out]
        go_wp2
        go_roundw
        case rel => exact ⟨k + 1, by omega, by go_num, A1, c1, z + 1, ys ++ [idP gs k], rfl, HY2, HO3.out, HB3.out⟩
        case measure => simp [intOf]; omega
    · obtain rfl : k = m := by omega
      go_wp2
      go_ret2
      exact ians_of rfl (HY.out.1.trans (by rw [HN.out])) HY.out.2 HO.out B1.out HB.out

theorem rids_any (A B : Option Addr) (n c m d : Nat) (gs : List Int) (ls : List Bool) (w : World) (hp : Plc w A n B m gs ls) :
    Calls Try.prog 19 #[.agg #[.slice A n c, .slice B m d]] w (IAns (idsF gs ls) (errS gs ls) w) := by
  by_cases h : okS gs ls
  · rw [idsF, if_pos h, errS_ok h]; exact rids_good A B n c m d gs ls w hp h
  · rw [idsF, if_neg h, errS_no h]; exact rids_bad A B n c m d gs ls w hp h

end Go.Proofs.Ytfaajimmammfdaa

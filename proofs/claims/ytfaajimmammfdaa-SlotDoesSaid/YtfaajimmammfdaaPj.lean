/-
  Contracts of layer 5's Ids: the program's.
-/
import Derived.Test.YtfaajimmammfdaaPc
namespace Go.Proofs.Ytfaajimmammfdaa
open Go.RowKit

/-- A new slice of numbers, and an error. -/
def IAns (zs : List Int) (er : Int) (w : World) (e : Ending) (w' : World) : Prop :=
  ∃ A c, e = .returned (.tuple #[.slice A zs.length c, .int .i64 er]) ∧ OwnI 2 w' w.heap.size A c zs ∧ Below w.heap.size w w'
open Classical in
noncomputable def idsF (gs : List Int) (ls : List Bool) : List Int := if okS gs ls then idsS gs ls gs.length else []

/-- The relation of the loop. -/
def IdRel (gs : List Int) (ls : List Bool) (n : Nat) (w : World) (u t : Value) (wr : World) : Prop :=
  ∃ k : Nat, k ≤ n ∧ t = .int .i64 k ∧ ∃ A c z, ∃ ys : List Int, u = .slice A z c ∧ Hid (ys = idsS gs ls k ∧ ys.length = z) ∧ OwnI 2 wr w.heap.size A c ys ∧ Below w.heap.size w wr
theorem ians_of {w w1 w' : World} {A : Option Addr} {c z : Nat} {ys zs : List Int} {er : Int} {e : Ending} (he : e = .returned (.tuple #[.slice A z c, .int .i64 er])) (h : ys = zs) (hz : ys.length = z) (ho : OwnI 2 w' w1.heap.size A c ys) (h1 : Below w.heap.size w w1) (hb : Below w1.heap.size w1 w') : IAns zs er w e w' := by
  subst h hz
  exact ⟨A, c, he, ho.base h1.size, below3 h1 hb⟩
theorem fit_id {gs : List Int} {ls : List Bool} {i : Nat} (h : okS gs ls) (hi : i < gs.length) : Fit (idP gs i) := by
  obtain ⟨h1, h2, _⟩ := h.2.2.2 i hi
  have := h.2.1
  unfold Fit idP
  omega
theorem ids_yes {gs : List Int} {ls : List Bool} {k z : Nat} {ys : List Int} (h : ys = idsS gs ls k ∧ ys.length = z) (hl : bth ls k = true) : ys ++ [idP gs k] = idsS gs ls (k + 1) ∧ (ys ++ [idP gs k]).length = z + 1 := by
  rw [idsS_succ, if_pos hl, h.1]
  exact ⟨rfl, by rw [List.length_append, ← h.1, h.2]; rfl⟩
theorem ids_no {gs : List Int} {ls : List Bool} {k z : Nat} {ys : List Int} (h : ys = idsS gs ls k ∧ ys.length = z) (hl : bth ls k = false) : ys = idsS gs ls (k + 1) ∧ ys.length = z := by
  rw [idsS_succ, if_neg (by rw [hl]; simp), List.append_nil]
  exact h
theorem ids_short {gs : List Int} {ls : List Bool} {k z : Nat} {ys : List Int} (h : ys = idsS gs ls k ∧ ys.length = z) : z ≤ k := by
  rw [← h.2, h.1]; exact idsS_len _ _ _

set_option maxHeartbeats 2000000 in
theorem ids_bad (A B : Option Addr) (n c m d : Nat) (gs : List Int) (ls : List Bool) (w : World) (hp : Plc w A n B m gs ls) (h : ¬ okS gs ls) :
    Calls Try.prog 18 #[.agg #[.slice A n c, .slice B m d]] w (IAns [] 1 w) := by
  have hb0 := (Below.refl w.heap.size w).alloc (Nat.le_refl _) (.cells #[.slice A n c, .slice B m d] 25)
  have HP := Lib.hid (hp.below hb0)
  have B0 := Lib.hid hb0
  have HE := Lib.hid (errS_no h)
  clear hp hb0 h
  go_enter Try.func18, Try.ntmps18
  go_wp2_with fail
  refine (check_any A B n c m d gs ls _ HP.out).mono ?_
  rintro e w1 ⟨rfl, hb1⟩
  rw [HE.out]
  have B1 := Lib.hid (below3 B0.out hb1)
  clear hb1
  go_wp2
  go_ret2
  exact ⟨none, 0, rfl, OwnI.nil_ _ _ _, B1.out⟩

set_option maxHeartbeats 4000000 in
theorem ids_good (A B : Option Addr) (n c m d : Nat) (gs : List Int) (ls : List Bool) (w : World) (hp : Plc w A n B m gs ls) (h : okS gs ls) :
    Calls Try.prog 18 #[.agg #[.slice A n c, .slice B m d]] w (IAns (idsS gs ls gs.length) 0 w) := by
  have hb0 := (Below.refl w.heap.size w).alloc (Nat.le_refl _) (.cells #[.slice A n c, .slice B m d] 25)
  have hmn : m = n := by have := h.2.2.1; have := hp.g.1; have := hp.l.1; omega
  subst hmn
  have hm : m ≤ 256 := by have := h.2.1; have := hp.g.1; omega
  have HN := Lib.hid hp.g.1
  have HP := Lib.hid (hp.below hb0)
  have B0 := Lib.hid hb0
  have K1 := Lib.hid (Bk.new w 25 #[.slice A m c, .slice B m d])
  have HE := Lib.hid (errS_ok h)
  have HOK := Lib.hid h
  have a0 := K1.out.c0
  have a1 := K1.out.c1
  clear hp hb0 h
  go_enter Try.func18, Try.ntmps18
  go_wp2_with fail
  refine (check_any A B m c m d gs ls _ HP.out).mono ?_
  rintro e w1 ⟨rfl, hb1⟩
  rw [HE.out]
  have B1 := Lib.hid (below3 B0.out hb1)
  have P1 := Lib.hid (HP.out.below hb1)
  have J1 := Lib.hid (K1.out.below hb1 K1.out.lt)
  clear hb1 K1 a0 a1 HP B0
  have a0 := J1.out.c0
  have a1 := J1.out.c1
  go_wp2
  clear a0 a1
  go_loopw [5, 16] (fun u t wr => IdRel gs ls m w1 u t wr) (fun _ t _ => m - (intOf t).toNat)
  case atStart => exact ⟨0, Nat.zero_le _, rfl, none, 0, 0, [], rfl, Lib.hid ⟨rfl, rfl⟩, OwnI.nil_ _ _ _, Below.refl _ _⟩
  case round =>
    obtain ⟨k, hk, rfl, D, e', z, ys, rfl, HY, ho, hb⟩ := hrel
    have HO := Lib.hid ho
    have HB := Lib.hid hb
    have HLZ := Lib.hid HY.out.2
    have hz := ids_short HY.out
    clear ho hb
    by_cases hlt : k < m
    · obtain ⟨b', o', rfl, hb', hc'⟩ := (P1.out.below HB.out).l.2.2 (by omega)
      have c2 := hc' k hlt
      have KR := J1.out.below HB.out J1.out.lt
      have a0 := KR.c0
      have a1 := KR.c1
      obtain ⟨y, hy⟩ : ∃ y, bth ls k = y := ⟨_, rfl⟩
      have HYY := Lib.hid hy
      rw [hy] at c2
      clear hc' hb' hy KR
      cases y
      · have HY2 := Lib.hid (ids_no HY.out HYY.out)
        go_wp2
        go_roundw
        case rel => exact ⟨k + 1, by omega, by go_num, D, e', z, ys, rfl, HY2, HO.out, HB.out⟩
        case measure => simp [intOf]; omega
      · have HY2 := Lib.hid (ids_yes HY.out HYY.out)
        have HFI := Lib.hid (fit_id HOK.out (by rw [HN.out]; exact hlt))
        go_wp2_with fail
        refine (id_any A (some ⟨b', o', none⟩) m c m d gs ls k _ (P1.out.below HB.out) HOK.out hlt).mono ?_
        rintro e w2 ⟨rfl, hb2⟩
        have HA := Lib.hid ((HO.out.below hb2).below ((Below.refl w2.heap.size w2).alloc (Nat.le_refl _) (.cells #[.int .i64 (idP gs k)] 2)))
        have HBA := Lib.hid ((below3 HB.out hb2).alloc (below3 HB.out hb2).size (.cells #[.int .i64 (idP gs k)] 2))
        clear hb2 a0 a1 c2
        go_wp2_with (at_builtin; refine wpList_append_ints _ rfl _ _ 22 rfl 2 Try.underlying22 Try.intsInfo w1.heap.size D e' ys z HLZ.out.symm rfl HA.out (some ⟨w2.heap.size, 0, none⟩) 1 1 [idP gs k] rfl (ints1 w2 2 HFI.out) (by rw [HLZ.out]; omega) HBA.out.size ?_)
        intro A1 c1 w3 ho3 hg3
        have HO3 := Lib.hid ho3
        have HB3 := Lib.hid (HBA.out.grown hg3 HBA.out.size HA.out.block)
        clear ho3 hg3
        rw [HLZ.out]
        go_wp2
        go_roundw
        case rel => exact ⟨k + 1, by omega, by go_num, A1, c1, z + 1, ys ++ [idP gs k], rfl, HY2, HO3.out, HB3.out⟩
        case measure => simp [intOf]; omega
    · obtain rfl : k = m := by omega
      go_wp2
      go_ret2
      exact ians_of rfl (HY.out.1.trans (by rw [HN.out])) HY.out.2 HO.out B1.out HB.out

theorem ids_any (A B : Option Addr) (n c m d : Nat) (gs : List Int) (ls : List Bool) (w : World) (hp : Plc w A n B m gs ls) :
    Calls Try.prog 18 #[.agg #[.slice A n c, .slice B m d]] w (IAns (idsF gs ls) (errS gs ls) w) := by
  by_cases h : okS gs ls
  · rw [idsF, if_pos h, errS_ok h]; exact ids_good A B n c m d gs ls w hp h
  · rw [idsF, if_neg h, errS_no h]; exact ids_bad A B n c m d gs ls w hp h

end Go.Proofs.Ytfaajimmammfdaa

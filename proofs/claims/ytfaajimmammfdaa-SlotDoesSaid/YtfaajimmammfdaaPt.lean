/-
  Contracts of layer 5's Take: the program's and the document's.
-/
import Derived.Test.YtfaajimmammfdaaPb
import Derived.Test.YtfaajimmammfdaaPc
import Derived.Test.YtfaajimmammfdaaPd
namespace Go.Proofs.Ytfaajimmammfdaa
open Go.RowKit

open Classical in
/-- What Take answers. -/
noncomputable def takeF (gs : List Int) (ls : List Bool) : Int × List Int × List Bool × Int :=
  if okS gs ls then (if h : ∃ i, IsFirst gs ls i then (idP gs h.choose, gs, ls.set h.choose true, 0) else (0, [], [], 7)) else (0, [], [], 1)
theorem takeF_bad {gs : List Int} {ls : List Bool} (h : ¬ okS gs ls) : takeF gs ls = (0, [], [], 1) := if_neg h
theorem takeF_full {gs : List Int} {ls : List Bool} (h : okS gs ls) (hf : NoFree gs ls) : takeF gs ls = (0, [], [], 7) := by
  rw [takeF, if_pos h, dif_neg (fun ⟨i, hi⟩ => first_no hi hf)]
theorem takeF_first {gs : List Int} {ls : List Bool} {i : Nat} (h : okS gs ls) (hf : IsFirst gs ls i) : takeF gs ls = (idP gs i, gs, ls.set i true, 0) := by
  have hx : ∃ i, IsFirst gs ls i := ⟨i, hf⟩
  rw [takeF, if_pos h, dif_pos hx, first_one hx.choose_spec hf]

/-- A number, new places, and an error. -/
def PAns (a : Int × List Int × List Bool × Int) (w : World) (e : Ending) (w' : World) : Prop :=
  ∃ A c B d, e = .returned (.tuple #[.int .i64 a.1, .agg #[.slice A a.2.1.length c, .slice B a.2.2.1.length d], .int .i64 a.2.2.2]) ∧ OwnP w' w.heap.size A c B d a.2.1 a.2.2.1 ∧ Below w.heap.size w w'
theorem pans_nil {w w' : World} {e : Ending} {er : Int} (he : e = .returned (.tuple #[.int .i64 0, .agg #[.slice none 0 0, .slice none 0 0], .int .i64 er])) (hb : Below w.heap.size w w') : PAns (0, [], [], er) w e w' :=
  ⟨none, 0, none, 0, he, OwnP.nil_ _ _, hb⟩

theorem OwnP.setL {w : World} {base g c d : Nat} {A : Option Addr} {gs : List Int} {ls : List Bool} (h : OwnP w base A c (some ⟨g, 0, none⟩) d gs ls) (i : Nat) (x : Bool) : OwnP (w.setCell ⟨g, i, none⟩ (.bool x)) base A c (some ⟨g, 0, none⟩) d gs (ls.set i x) := by
  refine ⟨⟨h.g.1, h.g.2.1, ownsRow_setCell_other h.g.2.2 ?_ _⟩, h.l.set_ i x, by rw [List.length_set]; exact h.s⟩
  rcases (rowsIB_ne (n := gs.length) (d := c) (n' := ls.length) (d' := d) h.g h.l (by decide)).1 with e | e
  · rw [e]; simp
  · intro e'
    exact e (by rw [e']; simp [Value.ownBlock])
theorem OwnP.setG {w : World} {base g c d : Nat} {B : Option Addr} {gs : List Int} {ls : List Bool} (h : OwnP w base (some ⟨g, 0, none⟩) c B d gs ls) (i : Nat) {x : Int} (hx : Fit x) : OwnP (w.setCell ⟨g, i, none⟩ (.int .i64 x)) base (some ⟨g, 0, none⟩) c B d (gs.set i x) ls := by
  refine ⟨h.g.set_ i hx, ownsRow_setCell_other h.l ?_ _, h.s⟩
  rcases (rowsIB_ne (n := gs.length) (d := c) (n' := ls.length) (d' := d) h.g h.l (by decide)).2 with e | e
  · rw [e]; simp
  · intro e'
    exact e (by rw [e']; simp [Value.ownBlock])
theorem OwnP.far {w : World} {base c d : Nat} {A B : Option Addr} {gs : List Int} {ls : List Bool} (h : OwnP w base A c B d gs ls) {p : Addr} (hp : p.block < base) (u : Value) : OwnP (w.setCell p u) base A c B d gs ls := ⟨h.g.far hp u, h.l.far hp u, h.s⟩

/-- The box of the argument, and the place of the result, as they lie at the beginning. -/
theorem lies2' (w : World) (x y : Array Value) (t u : TypeId) :
    Bk ((w.alloc (.cells x t)).alloc (.cells y u)) w.heap.size t x ∧ Bk ((w.alloc (.cells x t)).alloc (.cells y u)) (w.heap.size + 1) u y ∧ Below w.heap.size w ((w.alloc (.cells x t)).alloc (.cells y u)) := lies2 w x y t u

set_option maxHeartbeats 2000000 in
theorem take_bad (A B : Option Addr) (n c m d : Nat) (gs : List Int) (ls : List Bool) (w : World) (hp : Plc w A n B m gs ls) (h : ¬ okS gs ls) :
    Calls Try.prog 12 #[.agg #[.slice A n c, .slice B m d]] w (PAns (0, [], [], 1) w) := by
  obtain ⟨k1, k2, hb0⟩ := lies2 w #[.slice A n c, .slice B m d] #[.slice none 0 0, .slice none 0 0] 25 25
  have HP := Lib.hid (hp.below hb0)
  have K1 := Lib.hid k1
  have K2 := Lib.hid k2
  have B0 := Lib.hid hb0
  have HE := Lib.hid (errS_no h)
  have a0 := K1.out.c0
  have a1 := K1.out.c1
  clear hp k1 k2 hb0 h
  go_enter Try.func12, Try.ntmps12
  go_wp2_with fail
  refine (check_any A B n c m d gs ls _ HP.out).mono ?_
  rintro e w1 ⟨rfl, hb1⟩
  rw [HE.out]
  have B1 := Lib.hid (below3 B0.out hb1)
  have KK2 := Lib.hid (K2.out.below hb1 K2.out.lt)
  clear hb1 K1 K2 a0 a1
  have r0 := KK2.out.c0
  have r1 := KK2.out.c1
  have f0 := KK2.out.frozen 0
  have f1 := KK2.out.frozen 1
  have HB := Lib.hid ((B1.out.setCell (p := ⟨w.heap.size + 1, 0, none⟩) (Nat.le_succ _) (.slice none 0 0)).setCell (p := ⟨w.heap.size + 1, 1, none⟩) (Nat.le_succ _) (.slice none 0 0))
  go_wp2
  exact bodyPost_ret (v := .tuple #[.int .i64 0, .agg #[.slice none 0 0, .slice none 0 0], .int .i64 1]) (by simp [results, Try.results12, go_sem, *]) rfl (pans_nil rfl HB.out)

/-- The relation of the loop. -/
def TkRel (gs : List Int) (ls : List Bool) (n : Nat) (t : Value) : Prop := ∃ k : Nat, k ≤ n ∧ t = .int .i64 k ∧ ∀ j, j < k → freeB gs ls j = false

theorem freeB_no {gs : List Int} {ls : List Bool} {i : Nat} : freeB gs ls i = false ↔ ¬ freeP gs ls i := by rw [← freeB_yes]; simp

set_option maxHeartbeats 2000000 in
theorem take_full (A B : Option Addr) (n c m d : Nat) (gs : List Int) (ls : List Bool) (w : World) (hp : Plc w A n B m gs ls) (h : okS gs ls) (hf : NoFree gs ls) :
    Calls Try.prog 12 #[.agg #[.slice A n c, .slice B m d]] w (PAns (0, [], [], 7) w) := by
  obtain ⟨k1, k2, hb0⟩ := lies2 w #[.slice A n c, .slice B m d] #[.slice none 0 0, .slice none 0 0] 25 25
  have hmn : m = n := by have := h.2.2.1; have := hp.g.1; have := hp.l.1; omega
  subst hmn
  have hm : m ≤ 256 := by have := h.2.1; have := hp.g.1; omega
  have HNF := Lib.hid (fun (j : Nat) (hj : j < m) => freeB_no.2 (hf j (by rw [hp.g.1]; exact hj)))
  have HP := Lib.hid (hp.below hb0)
  have K1 := Lib.hid k1
  have K2 := Lib.hid k2
  have B0 := Lib.hid hb0
  have HE := Lib.hid (errS_ok h)
  have a0 := K1.out.c0
  have a1 := K1.out.c1
  clear hp k1 k2 hb0 h hf
  go_enter Try.func12, Try.ntmps12
  go_wp2_with fail
  refine (check_any A B m c m d gs ls _ HP.out).mono ?_
  rintro e w1 ⟨rfl, hb1⟩
  rw [HE.out]
  have B1 := Lib.hid (below3 B0.out hb1)
  have P1 := Lib.hid (HP.out.below hb1)
  have J1 := Lib.hid (K1.out.below hb1 K1.out.lt)
  have J2 := Lib.hid (K2.out.below hb1 K2.out.lt)
  clear hb1 K1 K2 a0 a1 HP B0
  have a0 := J1.out.c0
  have a1 := J1.out.c1
  go_wp2_with fail
  refine (freeOf_any A B m c m d _).mono ?_
  rintro e w2 ⟨g, rfl, hk, hg, hb2⟩
  have B2 := Lib.hid (below3 B1.out hb2)
  have P2 := Lib.hid (P1.out.below hb2)
  have L1 := Lib.hid (J1.out.below hb2 J1.out.lt)
  have L2 := Lib.hid (J2.out.below hb2 J2.out.lt)
  have HK := Lib.hid hk
  clear hb2 J1 J2 a0 a1 hk hg P1 B1
  have a0 := L1.out.c0
  have a1 := L1.out.c1
  go_wp2
  go_loop [20] (fun t => TkRel gs ls m t) (fun t => m - (intOf t).toNat)
  case atStart => exact ⟨0, Nat.zero_le _, rfl, fun j hj => absurd hj (by omega)⟩
  case round =>
    obtain ⟨k, hk, rfl, hall⟩ := hrel
    clear hall
    by_cases hlt : k < m
    · have HF := Lib.hid (HNF.out k hlt)
      go_wp2_with fail
      refine (isFree_any g A B m c m d gs ls k _ HK.out P2.out hlt hlt).mono ?_
      rintro e w' ⟨rfl, rfl⟩
      rw [HF.out]
      go_wp2
      go_round
      case rel => exact ⟨k + 1, by omega, by go_num, fun j hj => HNF.out j (by omega)⟩
      case measure => simp [intOf]; omega
    · have r0 := L2.out.c0
      have r1 := L2.out.c1
      have f0 := L2.out.frozen 0
      have f1 := L2.out.frozen 1
      have HB := Lib.hid ((B2.out.setCell (p := ⟨w.heap.size + 1, 0, none⟩) (Nat.le_succ _) (.slice none 0 0)).setCell (p := ⟨w.heap.size + 1, 1, none⟩) (Nat.le_succ _) (.slice none 0 0))
      go_wp2
      exact bodyPost_ret (v := .tuple #[.int .i64 0, .agg #[.slice none 0 0, .slice none 0 0], .int .i64 7]) (by simp [results, Try.results12, go_sem, *]) rfl (pans_nil rfl HB.out)

end Go.Proofs.Ytfaajimmammfdaa

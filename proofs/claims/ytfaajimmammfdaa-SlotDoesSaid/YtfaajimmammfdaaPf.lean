/-
  Contracts of layer 5's Find: the program's and the document's.
-/
import Derived.Test.YtfaajimmammfdaaPc
namespace Go.Proofs.Ytfaajimmammfdaa
open Go.RowKit

/-- What Find answers. -/
def FAns (x er : Int) (w : World) (e : Ending) (w' : World) : Prop := e = .returned (.tuple #[.int .i64 x, .int .i64 er]) ∧ Below w.heap.size w w'
theorem fans_of {x y er es : Int} {w w' : World} {e : Ending} (he : e = .returned (.tuple #[.int .i64 x, .int .i64 er])) (h1 : y = x) (h2 : es = er) (hb : Below w.heap.size w w') : FAns y es w e w' := by
  subst h1 h2; exact ⟨he, hb⟩

theorem find_bad {gs : List Int} {ls : List Bool} {id : Int} (h : ¬ okS gs ls ∨ id < 0) : findE gs ls id = 1 ∧ findN gs ls id = 0 := by
  have e : findE gs ls id = 1 := if_pos h
  exact ⟨e, by rw [findN, e]; simp⟩
theorem find_none {gs : List Int} {ls : List Bool} {id : Int} (h : okS gs ls) (h0 : 0 ≤ id) (h1 : (gs.length : Int) ≤ id % 256 ∨ nth gs (id % 256).toNat < id / 256) : findE gs ls id = 5 ∧ findN gs ls id = 0 := by
  have e : findE gs ls id = 5 := by unfold findE; rw [if_neg (by rintro (h' | h'); exact h' h; omega), if_pos h1]
  exact ⟨e, by rw [findN, e]; simp⟩
theorem find_old {gs : List Int} {ls : List Bool} {id : Int} (h : okS gs ls) (h0 : 0 ≤ id) (h1 : ¬ ((gs.length : Int) ≤ id % 256 ∨ nth gs (id % 256).toNat < id / 256)) (h2 : id / 256 < nth gs (id % 256).toNat) : findE gs ls id = 8 ∧ findN gs ls id = 0 := by
  have e : findE gs ls id = 8 := by unfold findE; rw [if_neg (by rintro (h' | h'); exact h' h; omega), if_neg h1, if_pos h2]
  exact ⟨e, by rw [findN, e]; simp⟩
theorem find_dead {gs : List Int} {ls : List Bool} {id : Int} (h : okS gs ls) (h0 : 0 ≤ id) (h1 : ¬ ((gs.length : Int) ≤ id % 256 ∨ nth gs (id % 256).toNat < id / 256)) (h2 : ¬ id / 256 < nth gs (id % 256).toNat) (h3 : bth ls (id % 256).toNat = false) : findE gs ls id = 5 ∧ findN gs ls id = 0 := by
  have e : findE gs ls id = 5 := by unfold findE; rw [if_neg (by rintro (h' | h'); exact h' h; omega), if_neg h1, if_neg h2, if_pos h3]
  exact ⟨e, by rw [findN, e]; simp⟩
theorem find_there {gs : List Int} {ls : List Bool} {id : Int} (h : okS gs ls) (h0 : 0 ≤ id) (h1 : ¬ ((gs.length : Int) ≤ id % 256 ∨ nth gs (id % 256).toNat < id / 256)) (h2 : ¬ id / 256 < nth gs (id % 256).toNat) (h3 : bth ls (id % 256).toNat = true) : findE gs ls id = 0 ∧ findN gs ls id = id % 256 := by
  have e : findE gs ls id = 0 := by unfold findE; rw [if_neg (by rintro (h' | h'); exact h' h; omega), if_neg h1, if_neg h2, if_neg (by rw [h3]; simp)]
  exact ⟨e, by rw [findN, e]; simp⟩

set_option maxHeartbeats 2000000 in
theorem find_any (A B : Option Addr) (n c m d : Nat) (gs : List Int) (ls : List Bool) (id : Int) (w : World) (hp : Plc w A n B m gs ls) (hid : Fit id) :
    Calls Try.prog 14 #[.agg #[.slice A n c, .slice B m d], .int .i64 id] w (FAns (findN gs ls id) (findE gs ls id) w) := by
  have HN := Lib.hid hp.g.1
  have HM := Lib.hid hp.l.1
  have k1 := Bk.new w 25 #[.slice A n c, .slice B m d]
  have hb0 := (Below.refl w.heap.size w).alloc (Nat.le_refl _) (.cells #[.slice A n c, .slice B m d] 25)
  have HP := Lib.hid (hp.below hb0)
  have K1 := Lib.hid k1
  have B0 := Lib.hid hb0
  have a0 := K1.out.c0
  have a1 := K1.out.c1
  have hid1 := hid.1
  have hid2 := hid.2
  clear hp k1 hb0 hid
  by_cases h : okS gs ls
  · have HE := Lib.hid (errS_ok h)
    have HOK := Lib.hid h
    have hm : n ≤ 256 := by have := h.2.1; have := HN.out; omega
    have hmn : m = n := by have := h.2.2.1; have := HN.out; have := HM.out; omega
    subst hmn
    clear h
    go_enter Try.func14, Try.ntmps14
    go_wp2_with fail
    refine (check_any A B m c m d gs ls _ HP.out).mono ?_
    rintro e w1 ⟨rfl, hb1⟩
    rw [HE.out]
    have B1 := Lib.hid (below3 B0.out hb1)
    have P1 := Lib.hid (HP.out.below hb1)
    have J1 := Lib.hid (K1.out.below hb1 K1.out.lt)
    clear hb1 K1 a0 a1 HP B0
    have a0 := J1.out.c0
    have a1 := J1.out.c1
    by_cases h0 : id < 0
    · have HF := Lib.hid (find_bad (gs := gs) (ls := ls) (.inr h0))
      go_wp2
      go_ret2
      exact fans_of rfl HF.out.2 HF.out.1 B1.out
    · have h0' : 0 ≤ id := by omega
      obtain ⟨q, hq⟩ : ∃ q, id / 256 = q := ⟨_, rfl⟩
      obtain ⟨r, hr⟩ : ∃ r : Nat, id % 256 = (r : Int) := ⟨(id % 256).toNat, by omega⟩
      have hq0 : 0 ≤ q := by omega
      have hr2 : r < 256 := by omega
      have HR := Lib.hid hr
      have HQ := Lib.hid hq
      have HT : Hid ((id % 256).toNat = r) := Lib.hid (by omega)
      by_cases h1 : m ≤ r
      · have HF := Lib.hid (find_none (gs := gs) (ls := ls) HOK.out h0' (.inl (by rw [HN.out, HR.out]; omega)))
        go_wp2
        go_ret2
        exact fans_of rfl HF.out.2 HF.out.1 B1.out
      · obtain ⟨b, o, rfl, hb, hc⟩ := P1.out.g.2.2.2 (by omega)
        obtain ⟨b', o', rfl, hb', hc'⟩ := P1.out.l.2.2 (by omega)
        have c1 := hc r (by omega)
        have c2 := hc' r (by omega)
        clear hc hc' hb hb'
        obtain ⟨x, hx⟩ : ∃ x, nth gs r = x := ⟨_, rfl⟩
        obtain ⟨y, hy⟩ : ∃ y, bth ls r = y := ⟨_, rfl⟩
        have HX := Lib.hid hx
        have HY := Lib.hid hy
        rw [hx] at c1
        rw [hy] at c2
        clear hx hy
        by_cases h2 : x < q
        · have HF := Lib.hid (find_none (gs := gs) (ls := ls) HOK.out h0' (.inr (by rw [HT.out, HQ.out, HX.out]; exact h2)))
          go_wp2
          go_ret2
          exact fans_of rfl HF.out.2 HF.out.1 B1.out
        · have HG : Hid (¬ ((gs.length : Int) ≤ id % 256 ∨ nth gs (id % 256).toNat < id / 256)) := Lib.hid (by rw [HT.out, HQ.out, HX.out, HN.out, HR.out]; omega)
          by_cases h3 : q < x
          · have HF := Lib.hid (find_old HOK.out h0' HG.out (by rw [HT.out, HQ.out, HX.out]; exact h3))
            go_wp2
            go_ret2
            exact fans_of rfl HF.out.2 HF.out.1 B1.out
          · cases y
            · have HF := Lib.hid (find_dead HOK.out h0' HG.out (by rw [HT.out, HQ.out, HX.out]; exact h3) (by rw [HT.out, HY.out]))
              go_wp2
              go_ret2
              exact fans_of rfl HF.out.2 HF.out.1 B1.out
            · have HF := Lib.hid (find_there HOK.out h0' HG.out (by rw [HT.out, HQ.out, HX.out]; exact h3) (by rw [HT.out, HY.out]))
              go_wp2
              go_ret2
              exact fans_of rfl HF.out.2 HF.out.1 B1.out
  · have HE := Lib.hid (errS_no h)
    have HF := Lib.hid (find_bad (id := id) (.inl h))
    clear h
    go_enter Try.func14, Try.ntmps14
    go_wp2_with fail
    refine (check_any A B n c m d gs ls _ HP.out).mono ?_
    rintro e w1 ⟨rfl, hb1⟩
    rw [HE.out]
    have B1 := Lib.hid (below3 B0.out hb1)
    clear hb1 K1 a0 a1 HP B0
    go_wp2
    go_ret2
    exact fans_of rfl HF.out.2 HF.out.1 B1.out

end Go.Proofs.Ytfaajimmammfdaa

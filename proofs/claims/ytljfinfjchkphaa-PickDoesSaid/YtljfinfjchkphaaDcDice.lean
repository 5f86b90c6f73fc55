/-
  Contracts of the small functions of layer 3: Check, Same, and the three closures that draws makes: an octet, a number below another one, and the dice then.
-/
import Derived.Test.YtljfinfjchkphaaDcMath
import Derived.Test.YtljfinfjchkphaaBlk
import Derived.Test.YtljfinfjchkphaaRows
import Derived.Lib.SliceRun
namespace Go.Proofs.Ytljfinfjchkphaa
open Go.RowKit

theorem Try.octetInfo : (Try.prog.info? 5).map (fun i => (i.zero, i.size, i.bytes)) = some (some (.int .u8 0), 1, 1) := by kernel_rfl

theorem check_ok (A : Option Addr) (n c : Nat) (p : Int) (w : World) (h0 : 0 ≤ p) (h1 : p ≤ n) :
    Calls Try.prog 35 #[.agg #[.slice A n c, .int .i64 p]] w (RetB (.int .i64 0) w) := by
  go_enter Try.func35, Try.ntmps35
  go_wp2
  go_ret
  exact RetB.of rfl ((Below.refl _ _).alloc (Nat.le_refl _) _)

theorem check_no (A : Option Addr) (n c : Nat) (p : Int) (w : World) (h : p < 0 ∨ (n : Int) < p) (hn : n ≤ 140737488351232) :
    Calls Try.prog 35 #[.agg #[.slice A n c, .int .i64 p]] w (RetB (.int .i64 1) w) := by
  rcases h with h | h
  · go_enter Try.func35, Try.ntmps35
    go_wp2
    go_ret
    exact RetB.of rfl ((Below.refl _ _).alloc (Nat.le_refl _) _)
  · go_enter Try.func35, Try.ntmps35
    go_wp2
    go_ret
    exact RetB.of rfl ((Below.refl _ _).alloc (Nat.le_refl _) _)

/-- Block g is dice of the octets bs, p of which are taken. -/
def DS (w : World) (g : Nat) (A : Option Addr) (n c p : Nat) (bs : List Int) : Prop :=
  Bk w g 24 #[.slice A n c, .int .i64 (p : Int)] ∧ Octs w A n bs ∧ p ≤ n

/-- One more octet is taken, if there is one. -/
def OctAns (g : Nat) (A : Option Addr) (n c q : Nat) (v : Int) (bs : List Int) (w : World) (e : Ending) (w' : World) : Prop :=
  e = .returned (.int .i64 v) ∧ DS w' g A n c q bs ∧ w.grownBy w' (some g)

theorem octet_any (g : Nat) (A : Option Addr) (n c p : Nat) (bs : List Int) (w : World) (h : DS w g A n c p bs) :
    Calls Try.prog 44 #[.pointer (some ⟨g, 0, none⟩)] w (OctAns g A n c (min (p + 1) n) (nth bs p) bs w) := by
  obtain ⟨hk, ho, hp⟩ := h
  have c0 := hk.cell 0
  have c1 := hk.cell 1
  have f1 := hk.frozen 1
  obtain ⟨hl, hn, hb, hc⟩ := id ho
  simp at c0 c1
  rcases Nat.lt_or_ge p n with hlt | hge
  · obtain ⟨b, o, rfl, hbw, hcell⟩ := hc (by omega)
    have c2 := hcell p hlt
    have hoct := ho.oct p
    unfold Oct at hoct
    have hne : b ≠ g := by
      rintro rfl
      rw [hk.cell] at c2
      match o + p, c2 with
      | 0, h => simp at h
      | 1, h => simp at h
      | k + 2, h => simp at h
    have c3 : (w.setCell ⟨g, 1, none⟩ (.int .i64 ((p : Int) + 1))).cell? ⟨b, o + p, none⟩ = some (.int .u8 (nth bs p)) :=
      (World.cell?_setCell_other w _ _ _ (by intro e; injection e with e _ _; exact hne e.symm)).trans c2
    have HS : Hid (OctAns g (some ⟨b, o, none⟩) n c (min (p + 1) n) (nth bs p) bs w (.returned (.int .i64 (nth bs p))) (w.setCell ⟨g, 1, none⟩ (.int .i64 ((p : Int) + 1)))) := by
      refine Lib.hid ⟨rfl, ⟨?_, ?_, by omega⟩, grown_set _⟩
      · have := hk.set_ 1 (.int .i64 ((p : Int) + 1))
        rw [Nat.min_eq_left (by omega)]
        simpa using this
      · refine ⟨hl, hn, hb, fun _ => ⟨b, o, rfl, by simpa [World.setCell] using hbw, fun j hj => ?_⟩⟩
        exact (World.cell?_setCell_other w _ _ _ (by intro e; injection e with e _ _; exact hne e.symm)).trans (hcell j hj)
    have e1 : ((p : Int) == (n : Int)) = false := by simp; omega
    clear hk ho hc hcell hb hl
    go_enter Try.func44, Try.ntmps44
    go_wp2
    go_ret
    exact HS.out
  · obtain rfl : p = n := by omega
    have HS : Hid (OctAns g A p c (min (p + 1) p) (nth bs p) bs w (.returned (.int .i64 0)) w) := by
      refine Lib.hid ⟨by rw [nth_end hl], ⟨?_, ho, by omega⟩, World.grownBy.refl _ _⟩
      rw [Nat.min_eq_right (by omega)]
      exact hk
    clear hk ho hc hb hl
    go_enter Try.func44, Try.ntmps44
    go_wp2
    go_ret
    exact HS.out

/-- A number below m is drawn. -/
theorem draw_any (g h : Nat) (A : Option Addr) (n c p : Nat) (bs : List Int) (m : Int) (w : World) (hs : DS w g A n c p bs) (hk : Bk w h 63 #[.func (.func 44) #[] #[.pointer (some ⟨g, 0, none⟩)]]) (hm : 0 < m) :
    Calls Try.prog 45 #[.int .i64 m, .pointer (some ⟨h, 0, none⟩)] w (OctAns g A n c (min (p + 2) n) (drawAt bs p % m) bs w) := by
  have hgh : g ≠ h := by
    rintro rfl
    have h1 : w.heap[g]? = _ := hs.1
    have h2 : w.heap[g]? = _ := hk
    rw [h1] at h2
    simp at h2
  have c0 := hk.cell 0
  simp at c0
  have hlt := hk.lt
  have o1 := hs.2.1.oct p
  have o2 := hs.2.1.oct (p + 1)
  unfold Oct at o1 o2
  have hp := hs.2.2
  have hl := hs.2.1.1
  have e2 : nth bs (min (p + 1) n) = nth bs (p + 1) := nth_min hl hp
  have HD : Hid (256 * nth bs p + nth bs (min (p + 1) n) = drawAt bs p) := Lib.hid (by rw [e2]; rfl)
  have o3 : 0 ≤ nth bs (min (p + 1) n) ∧ nth bs (min (p + 1) n) ≤ 255 := by rw [e2]; exact o2
  have HQ : Hid (min (min (p + 1) n + 1) n = min (p + 2) n) := Lib.hid (by omega)
  have HK := Lib.hid hk
  clear hk hl e2 hp
  go_enter Try.func45, Try.ntmps45
  go_wp2_with fail
  refine (octet_any g A n c p bs _ hs).mono ?_
  rintro e w1 ⟨rfl, hs1, hg1⟩
  have c1 := (hg1.cell c0 (by simp; omega))
  have HG1 := Lib.hid hg1
  clear hg1
  go_wp2_with fail
  refine (octet_any g A n c _ bs _ hs1).mono ?_
  rintro e w2 ⟨rfl, hs2, hg2⟩
  have HG2 := Lib.hid hg2
  have HS2 := Lib.hid hs2
  clear hg2 hs2 hs1 hs
  go_wp2
  go_ret
  exact ⟨ret_i64 (by rw [HD.out]), HQ.out ▸ HS2.out, HG1.out.trans HG2.out⟩

theorem draw_as (g h : Nat) (A : Option Addr) (n c p : Nat) (bs : List Int) (m j : Int) (w : World) (hs : DS w g A n c p bs) (hk : Bk w h 63 #[.func (.func 44) #[] #[.pointer (some ⟨g, 0, none⟩)]]) (hm : 0 < m) (hj : drawAt bs p % m = j) :
    Calls Try.prog 45 #[.int .i64 m, .pointer (some ⟨h, 0, none⟩)] w (OctAns g A n c (min (p + 2) n) j bs w) := hj ▸ draw_any g h A n c p bs m w hs hk hm

end Go.Proofs.Ytljfinfjchkphaa

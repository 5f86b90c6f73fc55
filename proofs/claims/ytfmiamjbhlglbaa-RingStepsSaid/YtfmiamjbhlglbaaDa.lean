/-
  The contracts of the program's accesses (layer 7): what each leaves of the cells, and of the hand, or that it may not be.
-/
import Derived.Test.YtfmiamjbhlglbaaDc
import Derived.Deep.QuietTactic
namespace Go.Proofs.Ytfmiamjbhlglbaa
open Go.RowKit

/-- It may not be. -/
def MetE (g : Nat) (w : World) (e : Ending) (w' : World) : Prop := e = .returned (.int .i64 9) ∧ w.grownBy w' (some g)
theorem grownBy_drew {a b : World} {r : Option Nat} (h : a.grownBy b r) : a.grownBy b.drew r := ⟨h.os, h.tape, h.output, h.size, h.block⟩
theorem grownBy_from {a b : World} {r : Option Nat} (h : a.drew.grownBy b r) : a.grownBy b r := ⟨h.os, h.tape, h.output, h.size, h.block⟩
theorem grownBy_drewN {a b : World} {r : Option Nat} (h : a.grownBy b r) (n : Nat) : a.grownBy (b.drewN n) r := ⟨h.os, h.tape, h.output, h.size, h.block⟩
theorem Rco.drewN {w : World} {g : Nat} {h : Hd} {base cap : Nat} {ms : List Int} {A : Option Addr} {c : Nat} (r : Rco w g h base cap ms A c) (n : Nat) : Rco (w.drewN n) g h base cap ms A c := r.below (below_drewN (Below.refl _ _) n)
theorem Rch.drewN {w : World} {g : Nat} {h : Hd} {base cap : Nat} {ms : List Int} {A : Option Addr} {c : Nat} (r : Rch w g h base cap ms A c) (n : Nat) : Rch (w.drewN n) g h base cap ms A c := ⟨r.bk, r.ints.below (below_drewN (Below.refl _ _) n), r.ne⟩

section
variable (w : World) (g : Nat) (h : Hd) (base cap : Nat) (ms : List Int) (A : Option Addr) (c : Nat)

theorem loadtop_ok (hR : Rch w g h base cap ms A c) (D : Dq base cap ms) (_ : HdB h) (y : Int) (hy : nth ms base = y) (hc : cntOk y (0)) :
    Calls Try.prog 39 #[.pointer (some ⟨g, 0, none⟩)] w (Met g 0 ({ h with t := y }) base cap ms w) := by
  have HD := Lib.hid (loadcount_ok w g h base cap ms A c hR D 0 (by have := D.len; have := D.c1; omega) (0) y hy hc)
  clear hR D hc hy
  go_enter Try.func39, Try.ntmps39
  go_wp2_with fail
  refine HD.out.mono ?_
  rintro e w1 ⟨rfl, g1, A1, c1, r1⟩
  have q3 : _ = some (Value.int .i64 h.t) := r1.bk.cell 3
  have f3 := r1.bk.frozen 3
  have hlt1 := r1.bk.lt
  have R1 := Lib.hid (r1.set (h' := { h with t := y }) 3 (.int .i64 y) rfl)
  have G1 := Lib.hid (g1.trans (grown_set (w := w1) (g := g) (i := 3) (.int .i64 y)))
  clear g1 r1
  go_wp2
  go_ret
  exact ⟨rfl, G1.out, A1, c1, R1.out⟩

theorem loadtop_no (hR : Rch w g h base cap ms A c) (D : Dq base cap ms) (_ : HdB h) (y : Int) (hy : nth ms base = y) (hc : ¬ cntOk y (0)) :
    Calls Try.prog 39 #[.pointer (some ⟨g, 0, none⟩)] w (Met g 9 ({ h with t := 0 }) base cap ms w) := by
  have HD := Lib.hid (loadcount_no w g h base cap ms A c hR D 0 (by have := D.len; have := D.c1; omega) (0) y hy hc)
  clear hR D hc hy
  go_enter Try.func39, Try.ntmps39
  go_wp2_with fail
  refine HD.out.mono ?_
  rintro e w1 ⟨rfl, g1, A1, c1, r1⟩
  have q3 : _ = some (Value.int .i64 h.t) := r1.bk.cell 3
  have f3 := r1.bk.frozen 3
  have hlt1 := r1.bk.lt
  have R1 := Lib.hid (r1.set (h' := { h with t := 0 }) 3 (.int .i64 0) rfl)
  have G1 := Lib.hid (g1.trans (grown_set (w := w1) (g := g) (i := 3) (.int .i64 0)))
  clear g1 r1
  go_wp2
  go_ret
  exact ⟨rfl, G1.out, A1, c1, R1.out⟩

theorem loadbottom_ok (hR : Rch w g h base cap ms A c) (D : Dq base cap ms) (_ : HdB h) (y : Int) (hy : nth ms (base + 1) = y) (hc : cntOk y (0)) :
    Calls Try.prog 43 #[.pointer (some ⟨g, 0, none⟩)] w (Met g 0 ({ h with b := y }) base cap ms w) := by
  have HD := Lib.hid (loadcount_ok w g h base cap ms A c hR D 1 (by have := D.len; have := D.c1; omega) (0) y hy hc)
  clear hR D hc hy
  go_enter Try.func43, Try.ntmps43
  go_wp2_with fail
  refine HD.out.mono ?_
  rintro e w1 ⟨rfl, g1, A1, c1, r1⟩
  have q3 : _ = some (Value.int .i64 h.b) := r1.bk.cell 4
  have f3 := r1.bk.frozen 4
  have hlt1 := r1.bk.lt
  have R1 := Lib.hid (r1.set (h' := { h with b := y }) 4 (.int .i64 y) rfl)
  have G1 := Lib.hid (g1.trans (grown_set (w := w1) (g := g) (i := 4) (.int .i64 y)))
  clear g1 r1
  go_wp2
  go_ret
  exact ⟨rfl, G1.out, A1, c1, R1.out⟩

theorem loadbottom_no (hR : Rch w g h base cap ms A c) (D : Dq base cap ms) (_ : HdB h) (y : Int) (hy : nth ms (base + 1) = y) (hc : ¬ cntOk y (0)) :
    Calls Try.prog 43 #[.pointer (some ⟨g, 0, none⟩)] w (Met g 9 ({ h with b := 0 }) base cap ms w) := by
  have HD := Lib.hid (loadcount_no w g h base cap ms A c hR D 1 (by have := D.len; have := D.c1; omega) (0) y hy hc)
  clear hR D hc hy
  go_enter Try.func43, Try.ntmps43
  go_wp2_with fail
  refine HD.out.mono ?_
  rintro e w1 ⟨rfl, g1, A1, c1, r1⟩
  have q3 : _ = some (Value.int .i64 h.b) := r1.bk.cell 4
  have f3 := r1.bk.frozen 4
  have hlt1 := r1.bk.lt
  have R1 := Lib.hid (r1.set (h' := { h with b := 0 }) 4 (.int .i64 0) rfl)
  have G1 := Lib.hid (g1.trans (grown_set (w := w1) (g := g) (i := 4) (.int .i64 0)))
  clear g1 r1
  go_wp2
  go_ret
  exact ⟨rfl, G1.out, A1, c1, R1.out⟩

theorem claimlast_yes (hR : Rch w g h base cap ms A c) (D : Dq base cap ms) (hb : HdB h) (ht : 0 ≤ h.t) (hy : nth ms base = h.t) :
    Calls Try.prog 48 #[.pointer (some ⟨g, 0, none⟩)] w (Met g 0 ({ h with won := true }) base cap (ms.set base (h.t + 1)) w) := by
  have HD := Lib.hid (claim_yes w g h base cap ms A c hR D ht hb.t.2 hy)
  clear hR D hb ht hy
  go_enter Try.func48, Try.ntmps48
  go_wp2_with fail
  refine HD.out.mono ?_
  rintro e w1 ⟨rfl, g1, A1, c1, r1⟩
  have q3 : _ = some (Value.bool h.won) := r1.bk.cell 5
  have f3 := r1.bk.frozen 5
  have hlt1 := r1.bk.lt
  have R1 := Lib.hid (r1.set (h' := { h with won := true }) 5 (.bool true) rfl)
  have G1 := Lib.hid (g1.trans (grown_set (w := w1) (g := g) (i := 5) (.bool true)))
  clear g1 r1
  go_wp2
  go_ret
  exact ⟨rfl, G1.out, A1, c1, R1.out⟩

theorem claimlast_other (hR : Rch w g h base cap ms A c) (D : Dq base cap ms) (hb : HdB h) (ht : 0 ≤ h.t) (hy : nth ms base ≠ h.t) :
    Calls Try.prog 48 #[.pointer (some ⟨g, 0, none⟩)] w (Met g 0 ({ h with won := false }) base cap ms w) := by
  have HD := Lib.hid (claim_other w g h base cap ms A c hR D ht hb.t.2 hy)
  clear hR D hb ht hy
  go_enter Try.func48, Try.ntmps48
  go_wp2_with fail
  refine HD.out.mono ?_
  rintro e w1 ⟨rfl, g1, A1, c1, r1⟩
  have q3 : _ = some (Value.bool h.won) := r1.bk.cell 5
  have f3 := r1.bk.frozen 5
  have hlt1 := r1.bk.lt
  have R1 := Lib.hid (r1.set (h' := { h with won := false }) 5 (.bool false) rfl)
  have G1 := Lib.hid (g1.trans (grown_set (w := w1) (g := g) (i := 5) (.bool false)))
  clear g1 r1
  go_wp2
  go_ret
  exact ⟨rfl, G1.out, A1, c1, R1.out⟩

theorem claimlast_no (hR : Rch w g h base cap ms A c) (_ : Dq base cap ms) (_ : HdB h) (ht : h.t < 0) :
    Calls Try.prog 48 #[.pointer (some ⟨g, 0, none⟩)] w (MetE g w) := by
  have HD := Lib.hid (claim_no w g h base cap ms A c hR ht)
  clear hR ht
  go_enter Try.func48, Try.ntmps48
  go_wp2_with fail
  refine HD.out.mono ?_
  rintro e w1 ⟨rfl, g1, A1, c1, r1⟩
  have q3 : _ = some (Value.bool h.won) := r1.bk.cell 5
  have f3 := r1.bk.frozen 5
  have hlt1 := r1.bk.lt
  have R1 := Lib.hid (r1.set (h' := { h with won := false }) 5 (.bool false) rfl)
  have G1 := Lib.hid (g1.trans (grown_set (w := w1) (g := g) (i := 5) (.bool false)))
  clear g1 r1
  go_wp2
  go_ret
  exact ⟨rfl, G1.out⟩

theorem raisebottom_no (hR : Rch w g h base cap ms A c) (_ : Dq base cap ms) (_ : HdB h) (hn : h.b < 0) :
    Calls Try.prog 42 #[.pointer (some ⟨g, 0, none⟩)] w (MetE g w) := by
  have c4 : _ = some (Value.int .i64 h.b) := hR.bk.cell 4
  have hlt := hR.bk.lt
  clear hR
  go_enter Try.func42, Try.ntmps42
  go_wp2
  go_ret
  exact ⟨rfl, World.grownBy.refl _ _⟩

theorem raisebottom_ok (hR : Rch w g h base cap ms A c) (D : Dq base cap ms) (hb : HdB h) (hn : 0 ≤ h.b) :
    Calls Try.prog 42 #[.pointer (some ⟨g, 0, none⟩)] w (Met g 0 ({ h with state := 1 }) base cap (ms.set (base + 1) (h.b + 1)) w) := by
  obtain ⟨hv, ⟨ht1, ht2⟩, hb1, hb2⟩ := hb
  have c4 : _ = some (Value.int .i64 h.b) := hR.bk.cell 4
  have hlt := hR.bk.lt
  have o0 : _ = some (Value.int .i64 h.state) := hR.bk.cell 6
  have fz0 := hR.bk.frozen 6
  have R0 := hR.set (h' := { h with state := 1 }) 6 (.int .i64 (1)) rfl
  have HD := Lib.hid (mstore_any _ g _ base cap ms A c R0 D 1 (by have := D.len; have := D.c1; omega) (h.b + 1) ⟨by omega, by omega⟩)
  have HG := Lib.hid (grown_set (w := w) (g := g) (i := 6) (.int .i64 (1)))
  clear hR D hv R0
  go_enter Try.func42, Try.ntmps42
  go_wp2_with fail
  refine HD.out.mono ?_
  rintro e w1 ⟨rfl, g1, A1, c1, r1⟩
  have G1 := Lib.hid (HG.out.trans g1)
  have R1 := Lib.hid r1
  clear g1 r1
  go_wp2
  go_ret
  exact ⟨rfl, G1.out, A1, c1, R1.out⟩

theorem lowerbottom_no (hR : Rch w g h base cap ms A c) (_ : Dq base cap ms) (_ : HdB h) (hn : h.b < 0) :
    Calls Try.prog 44 #[.pointer (some ⟨g, 0, none⟩)] w (MetE g w) := by
  have c4 : _ = some (Value.int .i64 h.b) := hR.bk.cell 4
  have hlt := hR.bk.lt
  clear hR
  go_enter Try.func44, Try.ntmps44
  go_wp2
  go_ret
  exact ⟨rfl, World.grownBy.refl _ _⟩

theorem lowerbottom_ok (hR : Rch w g h base cap ms A c) (D : Dq base cap ms) (hb : HdB h) (hn : 0 ≤ h.b) :
    Calls Try.prog 44 #[.pointer (some ⟨g, 0, none⟩)] w (Met g 0 ({ h with b := h.b - 1 }) base cap (ms.set (base + 1) (h.b - 1)) w) := by
  obtain ⟨hv, ⟨ht1, ht2⟩, hb1, hb2⟩ := hb
  have c4 : _ = some (Value.int .i64 h.b) := hR.bk.cell 4
  have hlt := hR.bk.lt
  have fz0 := hR.bk.frozen 4
  have R0 := hR.set (h' := { h with b := h.b - 1 }) 4 (.int .i64 (h.b - 1)) rfl
  have HD := Lib.hid (mstore_any _ g _ base cap ms A c R0 D 1 (by have := D.len; have := D.c1; omega) (h.b - 1) ⟨by omega, by omega⟩)
  have HG := Lib.hid (grown_set (w := w) (g := g) (i := 4) (.int .i64 (h.b - 1)))
  clear hR D hv R0
  go_enter Try.func44, Try.ntmps44
  go_wp2_with fail
  refine HD.out.mono ?_
  rintro e w1 ⟨rfl, g1, A1, c1, r1⟩
  have G1 := Lib.hid (HG.out.trans g1)
  have R1 := Lib.hid r1
  clear g1 r1
  go_wp2
  go_ret
  exact ⟨rfl, G1.out, A1, c1, R1.out⟩

theorem restorebottom_no (hR : Rch w g h base cap ms A c) (_ : Dq base cap ms) (_ : HdB h) (hn : h.t < 0) :
    Calls Try.prog 46 #[.pointer (some ⟨g, 0, none⟩)] w (MetE g w) := by
  have c4 : _ = some (Value.int .i64 h.t) := hR.bk.cell 3
  have hlt := hR.bk.lt
  clear hR
  go_enter Try.func46, Try.ntmps46
  go_wp2
  go_ret
  exact ⟨rfl, World.grownBy.refl _ _⟩

theorem restorebottom_ok (hR : Rch w g h base cap ms A c) (D : Dq base cap ms) (hb : HdB h) (hn : 0 ≤ h.t) :
    Calls Try.prog 46 #[.pointer (some ⟨g, 0, none⟩)] w (Met g 0 ({ h with state := 2 }) base cap (ms.set (base + 1) (h.t)) w) := by
  obtain ⟨hv, ⟨ht1, ht2⟩, hb1, hb2⟩ := hb
  have c4 : _ = some (Value.int .i64 h.t) := hR.bk.cell 3
  have hlt := hR.bk.lt
  have o0 : _ = some (Value.int .i64 h.state) := hR.bk.cell 6
  have fz0 := hR.bk.frozen 6
  have R0 := hR.set (h' := { h with state := 2 }) 6 (.int .i64 (2)) rfl
  have HD := Lib.hid (mstore_any _ g _ base cap ms A c R0 D 1 (by have := D.len; have := D.c1; omega) (h.t) ⟨by omega, by omega⟩)
  have HG := Lib.hid (grown_set (w := w) (g := g) (i := 6) (.int .i64 (2)))
  clear hR D hv R0
  go_enter Try.func46, Try.ntmps46
  go_wp2_with fail
  refine HD.out.mono ?_
  rintro e w1 ⟨rfl, g1, A1, c1, r1⟩
  have G1 := Lib.hid (HG.out.trans g1)
  have R1 := Lib.hid r1
  clear g1 r1
  go_wp2
  go_ret
  exact ⟨rfl, G1.out, A1, c1, R1.out⟩

theorem closebottom_no (hR : Rch w g h base cap ms A c) (_ : Dq base cap ms) (_ : HdB h) (hn : h.t < 0) :
    Calls Try.prog 49 #[.pointer (some ⟨g, 0, none⟩)] w (MetE g w) := by
  have c4 : _ = some (Value.int .i64 h.t) := hR.bk.cell 3
  have hlt := hR.bk.lt
  clear hR
  go_enter Try.func49, Try.ntmps49
  go_wp2
  go_ret
  exact ⟨rfl, World.grownBy.refl _ _⟩

theorem closebottom_won (hR : Rch w g h base cap ms A c) (D : Dq base cap ms) (hb : HdB h) (hn : 0 ≤ h.t) (hw : h.won = true) :
    Calls Try.prog 49 #[.pointer (some ⟨g, 0, none⟩)] w (Met g 0 ({ h with state := 1 }) base cap (ms.set (base + 1) (h.t + 1)) w) := by
  obtain ⟨hv, ⟨ht1, ht2⟩, hb1, hb2⟩ := hb
  have c4 : _ = some (Value.int .i64 h.t) := hR.bk.cell 3
  have c5 : _ = some (Value.bool h.won) := hR.bk.cell 5
  rw [hw] at c5
  have c6 : _ = some (Value.int .i64 h.state) := hR.bk.cell 6
  have f6 := hR.bk.frozen 6
  have hlt := hR.bk.lt
  have R1 := hR.set (h' := { h with state := 2 }) 6 (.int .i64 2) rfl
  have HE := Lib.hid (endif_any _ g _ base cap ms A c R1 true 1)
  have HG := Lib.hid (grown_set (w := w) (g := g) (i := 6) (.int .i64 2))
  have DD := Lib.hid D
  clear hR D hv R1 hw
  go_enter Try.func49, Try.ntmps49
  go_wp2_with fail
  refine HE.out.mono ?_
  rintro e w1 ⟨rfl, g1, r1⟩
  have r1 : Rch w1 g { h with state := 1 } base cap ms A c := r1
  have q3 : _ = some (Value.int .i64 h.t) := r1.bk.cell 3
  have hlt1 := r1.bk.lt
  have HD := Lib.hid (mstore_any _ g _ base cap ms A c r1 DD.out 1 (by have := DD.out.len; have := DD.out.c1; omega) (h.t + 1) ⟨by omega, by omega⟩)
  have G1 := Lib.hid (HG.out.trans g1)
  clear g1 r1 c4 c5 c6 f6
  go_wp2_with fail
  refine HD.out.mono ?_
  rintro e w2 ⟨rfl, g2, A2, c2, r2⟩
  have G2 := Lib.hid (G1.out.trans g2)
  have R2 := Lib.hid r2
  clear g2 r2
  go_wp2
  go_ret
  exact ⟨rfl, G2.out, A2, c2, R2.out⟩

theorem closebottom_lost (hR : Rch w g h base cap ms A c) (D : Dq base cap ms) (hb : HdB h) (hn : 0 ≤ h.t) (hw : h.won = false) :
    Calls Try.prog 49 #[.pointer (some ⟨g, 0, none⟩)] w (Met g 0 ({ h with state := 2 }) base cap (ms.set (base + 1) (h.t + 1)) w) := by
  obtain ⟨hv, ⟨ht1, ht2⟩, hb1, hb2⟩ := hb
  have c4 : _ = some (Value.int .i64 h.t) := hR.bk.cell 3
  have c5 : _ = some (Value.bool h.won) := hR.bk.cell 5
  rw [hw] at c5
  have c6 : _ = some (Value.int .i64 h.state) := hR.bk.cell 6
  have f6 := hR.bk.frozen 6
  have hlt := hR.bk.lt
  have R1 := hR.set (h' := { h with state := 2 }) 6 (.int .i64 2) rfl
  have HE := Lib.hid (endif_any _ g _ base cap ms A c R1 false 1)
  have HG := Lib.hid (grown_set (w := w) (g := g) (i := 6) (.int .i64 2))
  have DD := Lib.hid D
  clear hR D hv R1 hw
  go_enter Try.func49, Try.ntmps49
  go_wp2_with fail
  refine HE.out.mono ?_
  rintro e w1 ⟨rfl, g1, r1⟩
  have r1 : Rch w1 g { h with state := 2 } base cap ms A c := r1
  have q3 : _ = some (Value.int .i64 h.t) := r1.bk.cell 3
  have hlt1 := r1.bk.lt
  have HD := Lib.hid (mstore_any _ g _ base cap ms A c r1 DD.out 1 (by have := DD.out.len; have := DD.out.c1; omega) (h.t + 1) ⟨by omega, by omega⟩)
  have G1 := Lib.hid (HG.out.trans g1)
  clear g1 r1 c4 c5 c6 f6
  go_wp2_with fail
  refine HD.out.mono ?_
  rintro e w2 ⟨rfl, g2, A2, c2, r2⟩
  have G2 := Lib.hid (G1.out.trans g2)
  have R2 := Lib.hid r2
  clear g2 r2
  go_wp2
  go_ret
  exact ⟨rfl, G2.out, A2, c2, R2.out⟩

theorem loadfirst_ok (hR : Rch w g h base cap ms A c) (D : Dq base cap ms) (_ : HdB h) (hn : 0 ≤ h.t) :
    Calls Try.prog 51 #[.pointer (some ⟨g, 0, none⟩)] w (Met g 0 ({ h with v := nth ms (slI base cap h.t) }) base cap ms w) := by
  have c3 : _ = some (Value.int .i64 h.t) := hR.bk.cell 3
  have hlt := hR.bk.lt
  have HD := Lib.hid (loadslot_ok w g h base cap ms A c hR D h.t hn)
  clear hR D
  go_enter Try.func51, Try.ntmps51
  go_wp2_with fail
  refine HD.out.mono ?_
  rintro e w1 ⟨rfl, g1, A1, c1, r1⟩
  have G1 := Lib.hid g1
  have R1 := Lib.hid r1
  clear g1 r1
  go_wp2
  go_ret
  exact ⟨rfl, G1.out, A1, c1, R1.out⟩

theorem loadfirst_no (hR : Rch w g h base cap ms A c) (_ : Dq base cap ms) (_ : HdB h) (hn : h.t < 0) :
    Calls Try.prog 51 #[.pointer (some ⟨g, 0, none⟩)] w (MetE g w) := by
  have c3 : _ = some (Value.int .i64 h.t) := hR.bk.cell 3
  have hlt := hR.bk.lt
  have HD := Lib.hid (loadslot_no w g h base cap ms A c hR h.t hn)
  clear hR
  go_enter Try.func51, Try.ntmps51
  go_wp2_with fail
  refine HD.out.mono ?_
  rintro e w1 ⟨rfl, g1, A1, c1, r1⟩
  have G1 := Lib.hid g1
  have R1 := Lib.hid r1
  clear g1 r1
  go_wp2
  go_ret
  exact ⟨rfl, G1.out⟩

theorem claimfirst_yes (hR : Rch w g h base cap ms A c) (D : Dq base cap ms) (hb : HdB h) (ht : 0 ≤ h.t) (hy : nth ms base = h.t) :
    Calls Try.prog 52 #[.pointer (some ⟨g, 0, none⟩)] w (Met g 0 ({ h with state := 1 }) base cap (ms.set base (h.t + 1)) w) := by
  have HD := Lib.hid (claim_yes w g h base cap ms A c hR D ht hb.t.2 hy)
  clear hR D hb ht hy
  go_enter Try.func52, Try.ntmps52
  go_wp2_with fail
  refine HD.out.mono ?_
  rintro e w1 ⟨rfl, g1, A1, c1, r1⟩
  have G1 := Lib.hid g1
  have R1 := Lib.hid r1
  clear g1 r1
  go_wp2_with fail
  refine (endif_own _ g _ base cap _ A1 c1 R1.out true 1).mono ?_
  rintro e w2 ⟨rfl, g2, r2⟩
  have G2 := Lib.hid (G1.out.trans g2)
  have R2 := Lib.hid r2
  clear g2 r2
  go_wp2_with fail
  refine (endif_own _ g _ base cap _ A1 c1 R2.out false 4).mono ?_
  rintro e w3 ⟨rfl, g3, r3⟩
  have G3 := Lib.hid (G2.out.trans g3)
  have R3 := Lib.hid r3
  clear g3 r3
  go_wp2
  go_ret
  exact ⟨rfl, G3.out, A1, c1, R3.out⟩

theorem claimfirst_other (hR : Rch w g h base cap ms A c) (D : Dq base cap ms) (hb : HdB h) (ht : 0 ≤ h.t) (hy : nth ms base ≠ h.t) :
    Calls Try.prog 52 #[.pointer (some ⟨g, 0, none⟩)] w (Met g 0 ({ h with state := 4 }) base cap ms w) := by
  have HD := Lib.hid (claim_other w g h base cap ms A c hR D ht hb.t.2 hy)
  clear hR D hb ht hy
  go_enter Try.func52, Try.ntmps52
  go_wp2_with fail
  refine HD.out.mono ?_
  rintro e w1 ⟨rfl, g1, A1, c1, r1⟩
  have G1 := Lib.hid g1
  have R1 := Lib.hid r1
  clear g1 r1
  go_wp2_with fail
  refine (endif_own _ g _ base cap _ A1 c1 R1.out false 1).mono ?_
  rintro e w2 ⟨rfl, g2, r2⟩
  have G2 := Lib.hid (G1.out.trans g2)
  have R2 := Lib.hid r2
  clear g2 r2
  go_wp2_with fail
  refine (endif_own _ g _ base cap _ A1 c1 R2.out true 4).mono ?_
  rintro e w3 ⟨rfl, g3, r3⟩
  have G3 := Lib.hid (G2.out.trans g3)
  have R3 := Lib.hid r3
  clear g3 r3
  go_wp2
  go_ret
  exact ⟨rfl, G3.out, A1, c1, R3.out⟩

theorem claimfirst_no (hR : Rch w g h base cap ms A c) (_ : Dq base cap ms) (_ : HdB h) (ht : h.t < 0) :
    Calls Try.prog 52 #[.pointer (some ⟨g, 0, none⟩)] w (MetE g w) := by
  have HD := Lib.hid (claim_no w g h base cap ms A c hR ht)
  clear hR ht
  go_enter Try.func52, Try.ntmps52
  go_wp2_with fail
  refine HD.out.mono ?_
  rintro e w1 ⟨rfl, g1, A1, c1, r1⟩
  have G1 := Lib.hid g1
  have R1 := Lib.hid r1
  clear g1 r1
  go_wp2_with fail
  refine (endif_any _ g _ base cap _ A1 c1 R1.out false 1).mono ?_
  rintro e w2 ⟨rfl, g2, r2⟩
  have G2 := Lib.hid (G1.out.trans g2)
  have R2 := Lib.hid r2
  clear g2 r2
  go_wp2_with fail
  refine (endif_any _ g _ base cap _ A1 c1 R2.out true 4).mono ?_
  rintro e w3 ⟨rfl, g3, r3⟩
  have G3 := Lib.hid (G2.out.trans g3)
  have R3 := Lib.hid r3
  clear g3 r3
  go_wp2
  go_ret
  exact ⟨rfl, G3.out⟩

theorem seeany_ok1 (hR : Rch w g h base cap ms A c) (D : Dq base cap ms) (hb : HdB h) (y : Int) (hy : nth ms base = y) (hc : cntOk y 0) (hl : y ≤ h.b) :
    Calls Try.prog 45 #[.pointer (some ⟨g, 0, none⟩)] w (Met g 0 ({ h with t := y, pc := 4 }) base cap ms w) := by
  obtain ⟨hv, ⟨ht1, ht2⟩, hb1, hb2⟩ := hb
  have HD := Lib.hid (loadtop_ok w g h base cap ms A c hR D ⟨hv, ⟨ht1, ht2⟩, hb1, hb2⟩ y hy hc)
  clear hR D hc hy hv
  go_enter Try.func45, Try.ntmps45
  go_wp2_with fail
  refine HD.out.mono ?_
  rintro e w1 ⟨rfl, g1, A1, c1, r1⟩
  have q3 : _ = some (Value.int .i64 y) := r1.bk.cell 3
  have q4 : _ = some (Value.int .i64 h.b) := r1.bk.cell 4
  have q1 : _ = some (Value.int .i64 h.pc) := r1.bk.cell 1
  have f1 := r1.bk.frozen 1
  have hlt1 := r1.bk.lt
  have R1 := Lib.hid r1
  have G1 := Lib.hid g1
  clear g1 r1
  go_wp2
  go_quiet (fail)
  go_wp2
  go_ret
  exact ⟨rfl, (grownBy_drewN G1.out _).trans (grown_set _), A1, c1, (R1.out.drewN _).set (h' := { h with t := y, pc := 4 }) 1 (.int .i64 4) rfl⟩

theorem seeany_ok0 (hR : Rch w g h base cap ms A c) (D : Dq base cap ms) (hb : HdB h) (y : Int) (hy : nth ms base = y) (hc : cntOk y 0) (hl : ¬ y ≤ h.b) :
    Calls Try.prog 45 #[.pointer (some ⟨g, 0, none⟩)] w (Met g 0 ({ h with t := y }) base cap ms w) := by
  obtain ⟨hv, ⟨ht1, ht2⟩, hb1, hb2⟩ := hb
  have HD := Lib.hid (loadtop_ok w g h base cap ms A c hR D ⟨hv, ⟨ht1, ht2⟩, hb1, hb2⟩ y hy hc)
  clear hR D hc hy hv
  go_enter Try.func45, Try.ntmps45
  go_wp2_with fail
  refine HD.out.mono ?_
  rintro e w1 ⟨rfl, g1, A1, c1, r1⟩
  have q3 : _ = some (Value.int .i64 y) := r1.bk.cell 3
  have q4 : _ = some (Value.int .i64 h.b) := r1.bk.cell 4
  have hlt1 := r1.bk.lt
  have R1 := Lib.hid r1
  have G1 := Lib.hid g1
  clear g1 r1
  go_wp2
  go_quiet (fail)
  go_wp2
  go_ret
  exact ⟨rfl, grownBy_drewN G1.out _, A1, c1, R1.out.drewN _⟩

theorem seeany_no1 (hR : Rch w g h base cap ms A c) (D : Dq base cap ms) (hb : HdB h) (y : Int) (hy : nth ms base = y) (hc : ¬ cntOk y 0) (hl : 0 ≤ h.b) :
    Calls Try.prog 45 #[.pointer (some ⟨g, 0, none⟩)] w (MetE g w) := by
  obtain ⟨hv, ⟨ht1, ht2⟩, hb1, hb2⟩ := hb
  have HD := Lib.hid (loadtop_no w g h base cap ms A c hR D ⟨hv, ⟨ht1, ht2⟩, hb1, hb2⟩ y hy hc)
  clear hR D hc hy hv
  go_enter Try.func45, Try.ntmps45
  go_wp2_with fail
  refine HD.out.mono ?_
  rintro e w1 ⟨rfl, g1, A1, c1, r1⟩
  have q3 : _ = some (Value.int .i64 0) := r1.bk.cell 3
  have q4 : _ = some (Value.int .i64 h.b) := r1.bk.cell 4
  have q1 : _ = some (Value.int .i64 h.pc) := r1.bk.cell 1
  have f1 := r1.bk.frozen 1
  have hlt1 := r1.bk.lt
  have R1 := Lib.hid r1
  have G1 := Lib.hid g1
  clear g1 r1
  go_wp2
  go_quiet (fail)
  go_wp2
  go_ret
  exact ⟨rfl, (grownBy_drewN G1.out _).trans (grown_set _)⟩

theorem seeany_no0 (hR : Rch w g h base cap ms A c) (D : Dq base cap ms) (hb : HdB h) (y : Int) (hy : nth ms base = y) (hc : ¬ cntOk y 0) (hl : ¬ 0 ≤ h.b) :
    Calls Try.prog 45 #[.pointer (some ⟨g, 0, none⟩)] w (MetE g w) := by
  obtain ⟨hv, ⟨ht1, ht2⟩, hb1, hb2⟩ := hb
  have HD := Lib.hid (loadtop_no w g h base cap ms A c hR D ⟨hv, ⟨ht1, ht2⟩, hb1, hb2⟩ y hy hc)
  clear hR D hc hy hv
  go_enter Try.func45, Try.ntmps45
  go_wp2_with fail
  refine HD.out.mono ?_
  rintro e w1 ⟨rfl, g1, A1, c1, r1⟩
  have q3 : _ = some (Value.int .i64 0) := r1.bk.cell 3
  have q4 : _ = some (Value.int .i64 h.b) := r1.bk.cell 4
  have hlt1 := r1.bk.lt
  have R1 := Lib.hid r1
  have G1 := Lib.hid g1
  clear g1 r1
  go_wp2
  go_quiet (fail)
  go_wp2
  go_ret
  exact ⟨rfl, grownBy_drewN G1.out _⟩

theorem seeroom_ok1 (hR : Rch w g h base cap ms A c) (D : Dq base cap ms) (hb : HdB h) (y : Int) (hy : nth ms (base + 1) = y) (hc : cntOk y 0) (hl : (cap : Int) ≤ y - h.t) :
    Calls Try.prog 40 #[.pointer (some ⟨g, 0, none⟩)] w (Met g 0 ({ h with b := y, state := 3 }) base cap ms w) := by
  have HL : Hid (decide ((cap : Int) ≤ y - h.t) = true) := Lib.hid (decide_eq_true hl)
  clear hl
  obtain ⟨hv, ⟨ht1, ht2⟩, hb1, hb2⟩ := hb
  have HD := Lib.hid (loadbottom_ok w g h base cap ms A c hR D ⟨hv, ⟨ht1, ht2⟩, hb1, hb2⟩ y hy hc)
  have c1le := D.c1
  have c2le := D.c2
  obtain ⟨hc1, hc2⟩ := hc
  clear hR D hy hv
  go_enter Try.func40, Try.ntmps40
  go_wp2_with fail
  refine HD.out.mono ?_
  rintro e w1 ⟨rfl, g1, A1, c1, r1⟩
  have hlt1 := r1.bk.lt
  have q4 : _ = some (Value.int .i64 y) := r1.bk.cell 4
  have q3 : _ = some (Value.int .i64 h.t) := r1.bk.cell 3
  have q8 : _ = some (Value.int .i64 cap) := r1.bk.cell 8
  have R1 := Lib.hid r1
  have G1 := Lib.hid g1
  clear g1 r1
  go_wp2
  go_still_tail 18, (by kernel_rfl)
  change wpList _ _ _ _ _ (w1.drew)
  go_wp2_with fail
  rw [HL.out]
  refine (endif_own _ g _ base cap _ A1 c1 R1.out.drew true 3).mono ?_
  rintro e w2 ⟨rfl, g2, r2⟩
  have G2 := Lib.hid ((grownBy_drew G1.out).trans g2)
  have R2 := Lib.hid r2
  clear g2 r2
  go_wp2
  go_ret
  exact ⟨rfl, G2.out, A1, c1, R2.out⟩

theorem seeroom_ok0 (hR : Rch w g h base cap ms A c) (D : Dq base cap ms) (hb : HdB h) (y : Int) (hy : nth ms (base + 1) = y) (hc : cntOk y 0) (hl : ¬ (cap : Int) ≤ y - h.t) :
    Calls Try.prog 40 #[.pointer (some ⟨g, 0, none⟩)] w (Met g 0 ({ h with b := y }) base cap ms w) := by
  have HL : Hid (decide ((cap : Int) ≤ y - h.t) = false) := Lib.hid (decide_eq_false hl)
  clear hl
  obtain ⟨hv, ⟨ht1, ht2⟩, hb1, hb2⟩ := hb
  have HD := Lib.hid (loadbottom_ok w g h base cap ms A c hR D ⟨hv, ⟨ht1, ht2⟩, hb1, hb2⟩ y hy hc)
  have c1le := D.c1
  have c2le := D.c2
  obtain ⟨hc1, hc2⟩ := hc
  clear hR D hy hv
  go_enter Try.func40, Try.ntmps40
  go_wp2_with fail
  refine HD.out.mono ?_
  rintro e w1 ⟨rfl, g1, A1, c1, r1⟩
  have hlt1 := r1.bk.lt
  have q4 : _ = some (Value.int .i64 y) := r1.bk.cell 4
  have q3 : _ = some (Value.int .i64 h.t) := r1.bk.cell 3
  have q8 : _ = some (Value.int .i64 cap) := r1.bk.cell 8
  have R1 := Lib.hid r1
  have G1 := Lib.hid g1
  clear g1 r1
  go_wp2
  go_still_tail 18, (by kernel_rfl)
  change wpList _ _ _ _ _ (w1.drew)
  go_wp2_with fail
  rw [HL.out]
  refine (endif_own _ g _ base cap _ A1 c1 R1.out.drew false 3).mono ?_
  rintro e w2 ⟨rfl, g2, r2⟩
  have G2 := Lib.hid ((grownBy_drew G1.out).trans g2)
  have R2 := Lib.hid r2
  clear g2 r2
  go_wp2
  go_ret
  exact ⟨rfl, G2.out, A1, c1, R2.out⟩

theorem seeroom_no1 (hR : Rch w g h base cap ms A c) (D : Dq base cap ms) (hb : HdB h) (y : Int) (hy : nth ms (base + 1) = y) (hc : ¬ cntOk y 0) (hl : (cap : Int) ≤ -h.t) :
    Calls Try.prog 40 #[.pointer (some ⟨g, 0, none⟩)] w (MetE g w) := by
  have HL : Hid (decide ((cap : Int) ≤ -h.t) = true) := Lib.hid (decide_eq_true hl)
  clear hl
  obtain ⟨hv, ⟨ht1, ht2⟩, hb1, hb2⟩ := hb
  have HD := Lib.hid (loadbottom_no w g h base cap ms A c hR D ⟨hv, ⟨ht1, ht2⟩, hb1, hb2⟩ y hy hc)
  have c1le := D.c1
  have c2le := D.c2
  clear hc
  clear hR D hy hv
  go_enter Try.func40, Try.ntmps40
  go_wp2_with fail
  refine HD.out.mono ?_
  rintro e w1 ⟨rfl, g1, A1, c1, r1⟩
  have hlt1 := r1.bk.lt
  have q4 : _ = some (Value.int .i64 0) := r1.bk.cell 4
  have q3 : _ = some (Value.int .i64 h.t) := r1.bk.cell 3
  have q8 : _ = some (Value.int .i64 cap) := r1.bk.cell 8
  have R1 := Lib.hid r1
  have G1 := Lib.hid g1
  clear g1 r1
  go_wp2
  go_still_tail 18, (by kernel_rfl)
  change wpList _ _ _ _ _ (w1.drew)
  go_wp2_with fail
  rw [HL.out]
  refine (endif_own _ g _ base cap _ A1 c1 R1.out.drew true 3).mono ?_
  rintro e w2 ⟨rfl, g2, r2⟩
  have G2 := Lib.hid ((grownBy_drew G1.out).trans g2)
  have R2 := Lib.hid r2
  clear g2 r2
  go_wp2
  go_ret
  exact ⟨rfl, G2.out⟩

theorem seeroom_no0 (hR : Rch w g h base cap ms A c) (D : Dq base cap ms) (hb : HdB h) (y : Int) (hy : nth ms (base + 1) = y) (hc : ¬ cntOk y 0) (hl : ¬ (cap : Int) ≤ -h.t) :
    Calls Try.prog 40 #[.pointer (some ⟨g, 0, none⟩)] w (MetE g w) := by
  have HL : Hid (decide ((cap : Int) ≤ -h.t) = false) := Lib.hid (decide_eq_false hl)
  clear hl
  obtain ⟨hv, ⟨ht1, ht2⟩, hb1, hb2⟩ := hb
  have HD := Lib.hid (loadbottom_no w g h base cap ms A c hR D ⟨hv, ⟨ht1, ht2⟩, hb1, hb2⟩ y hy hc)
  have c1le := D.c1
  have c2le := D.c2
  clear hc
  clear hR D hy hv
  go_enter Try.func40, Try.ntmps40
  go_wp2_with fail
  refine HD.out.mono ?_
  rintro e w1 ⟨rfl, g1, A1, c1, r1⟩
  have hlt1 := r1.bk.lt
  have q4 : _ = some (Value.int .i64 0) := r1.bk.cell 4
  have q3 : _ = some (Value.int .i64 h.t) := r1.bk.cell 3
  have q8 : _ = some (Value.int .i64 cap) := r1.bk.cell 8
  have R1 := Lib.hid r1
  have G1 := Lib.hid g1
  clear g1 r1
  go_wp2
  go_still_tail 18, (by kernel_rfl)
  change wpList _ _ _ _ _ (w1.drew)
  go_wp2_with fail
  rw [HL.out]
  refine (endif_own _ g _ base cap _ A1 c1 R1.out.drew false 3).mono ?_
  rintro e w2 ⟨rfl, g2, r2⟩
  have G2 := Lib.hid ((grownBy_drew G1.out).trans g2)
  have R2 := Lib.hid r2
  clear g2 r2
  go_wp2
  go_ret
  exact ⟨rfl, G2.out⟩

theorem loadlast_ok1 (hR : Rch w g h base cap ms A c) (D : Dq base cap ms) (hb : HdB h) (hn : 0 ≤ h.b) (hl : h.t < h.b) :
    Calls Try.prog 47 #[.pointer (some ⟨g, 0, none⟩)] w (Met g 0 ({ h with v := nth ms (slI base cap h.b), state := 1 }) base cap ms w) := by
  have HL : Hid (decide (h.t < h.b) = true) := Lib.hid (decide_eq_true hl)
  clear hl
  obtain ⟨hv, ⟨ht1, ht2⟩, hb1, hb2⟩ := hb
  have c4 : _ = some (Value.int .i64 h.b) := hR.bk.cell 4
  have hlt := hR.bk.lt
  have HD := Lib.hid (loadslot_ok w g h base cap ms A c hR D h.b hn)
  clear hR D hv
  go_enter Try.func47, Try.ntmps47
  go_wp2_with fail
  refine HD.out.mono ?_
  rintro e w1 ⟨rfl, g1, A1, c1, r1⟩
  clear c4
  have hlt1 := r1.bk.lt
  have q4 : _ = some (Value.int .i64 h.b) := r1.bk.cell 4
  have q3 : _ = some (Value.int .i64 h.t) := r1.bk.cell 3
  have R1 := Lib.hid r1
  have G1 := Lib.hid g1
  clear g1 r1
  go_wp2
  go_still_tail 12, (by kernel_rfl)
  change wpList _ _ _ _ _ (w1.drew)
  go_wp2_with fail
  rw [HL.out]
  refine (endif_own _ g _ base cap _ A1 c1 R1.out.drew true 1).mono ?_
  rintro e w2 ⟨rfl, g2, r2⟩
  have G2 := Lib.hid ((grownBy_drew G1.out).trans g2)
  have R2 := Lib.hid r2
  clear g2 r2
  go_wp2
  go_ret
  exact ⟨rfl, G2.out, A1, c1, R2.out⟩

theorem loadlast_ok0 (hR : Rch w g h base cap ms A c) (D : Dq base cap ms) (hb : HdB h) (hn : 0 ≤ h.b) (hl : ¬ h.t < h.b) :
    Calls Try.prog 47 #[.pointer (some ⟨g, 0, none⟩)] w (Met g 0 ({ h with v := nth ms (slI base cap h.b) }) base cap ms w) := by
  have HL : Hid (decide (h.t < h.b) = false) := Lib.hid (decide_eq_false hl)
  clear hl
  obtain ⟨hv, ⟨ht1, ht2⟩, hb1, hb2⟩ := hb
  have c4 : _ = some (Value.int .i64 h.b) := hR.bk.cell 4
  have hlt := hR.bk.lt
  have HD := Lib.hid (loadslot_ok w g h base cap ms A c hR D h.b hn)
  clear hR D hv
  go_enter Try.func47, Try.ntmps47
  go_wp2_with fail
  refine HD.out.mono ?_
  rintro e w1 ⟨rfl, g1, A1, c1, r1⟩
  clear c4
  have hlt1 := r1.bk.lt
  have q4 : _ = some (Value.int .i64 h.b) := r1.bk.cell 4
  have q3 : _ = some (Value.int .i64 h.t) := r1.bk.cell 3
  have R1 := Lib.hid r1
  have G1 := Lib.hid g1
  clear g1 r1
  go_wp2
  go_still_tail 12, (by kernel_rfl)
  change wpList _ _ _ _ _ (w1.drew)
  go_wp2_with fail
  rw [HL.out]
  refine (endif_own _ g _ base cap _ A1 c1 R1.out.drew false 1).mono ?_
  rintro e w2 ⟨rfl, g2, r2⟩
  have G2 := Lib.hid ((grownBy_drew G1.out).trans g2)
  have R2 := Lib.hid r2
  clear g2 r2
  go_wp2
  go_ret
  exact ⟨rfl, G2.out, A1, c1, R2.out⟩

theorem loadlast_no0 (hR : Rch w g h base cap ms A c) (_ : Dq base cap ms) (hb : HdB h) (hn : h.b < 0) (hl : ¬ h.t < h.b) :
    Calls Try.prog 47 #[.pointer (some ⟨g, 0, none⟩)] w (MetE g w) := by
  have HL : Hid (decide (h.t < h.b) = false) := Lib.hid (decide_eq_false hl)
  clear hl
  obtain ⟨hv, ⟨ht1, ht2⟩, hb1, hb2⟩ := hb
  have c4 : _ = some (Value.int .i64 h.b) := hR.bk.cell 4
  have hlt := hR.bk.lt
  have HD := Lib.hid (loadslot_no w g h base cap ms A c hR h.b hn)
  clear hR hv
  go_enter Try.func47, Try.ntmps47
  go_wp2_with fail
  refine HD.out.mono ?_
  rintro e w1 ⟨rfl, g1, A1, c1, r1⟩
  clear c4
  have hlt1 := r1.bk.lt
  have q4 : _ = some (Value.int .i64 h.b) := r1.bk.cell 4
  have q3 : _ = some (Value.int .i64 h.t) := r1.bk.cell 3
  have R1 := Lib.hid r1
  have G1 := Lib.hid g1
  clear g1 r1
  go_wp2
  go_still_tail 12, (by kernel_rfl)
  change wpList _ _ _ _ _ (w1.drew)
  go_wp2_with fail
  rw [HL.out]
  refine (endif_any _ g _ base cap _ A1 c1 R1.out.drew false 1).mono ?_
  rintro e w2 ⟨rfl, g2, r2⟩
  have G2 := Lib.hid ((grownBy_drew G1.out).trans g2)
  have R2 := Lib.hid r2
  clear g2 r2
  go_wp2
  go_ret
  exact ⟨rfl, G2.out⟩

theorem seefirst_ok1 (hR : Rch w g h base cap ms A c) (D : Dq base cap ms) (hb : HdB h) (y : Int) (hy : nth ms (base + 1) = y) (hc : cntOk y (-1)) (hl : y - h.t < 1) :
    Calls Try.prog 50 #[.pointer (some ⟨g, 0, none⟩)] w (Met g 0 ({ h with b := y, state := 2 }) base cap ms w) := by
  have HL : Hid (decide (y - h.t < 1) = true) := Lib.hid (decide_eq_true hl)
  clear hl
  obtain ⟨hv, ⟨ht1, ht2⟩, hb1, hb2⟩ := hb
  have HD := Lib.hid (loadcount_ok w g h base cap ms A c hR D 1 (by have := D.len; have := D.c1; omega) (-1) y hy hc)
  obtain ⟨hc1, hc2⟩ := hc
  clear hR D hy hv
  go_enter Try.func50, Try.ntmps50
  go_wp2_with fail
  refine HD.out.mono ?_
  rintro e w0 ⟨rfl, g0, A1, c1, r0⟩
  have p4 : _ = some (Value.int .i64 h.b) := r0.bk.cell 4
  have f4 := r0.bk.frozen 4
  have hlt0 := r0.bk.lt
  have q3 : _ = some (Value.int .i64 h.t) := r0.bk.cell 3
  have r1 := r0.set (h' := { h with b := y }) 4 (.int .i64 y) rfl
  have g1 := g0.trans (grown_set (w := w0) (g := g) (i := 4) (.int .i64 y))
  obtain ⟨W, hW⟩ : ∃ W, w0.setCell ⟨g, 4, none⟩ (.int .i64 y) = W := ⟨_, rfl⟩
  rw [hW] at r1 g1
  have HW := Lib.hid hW
  clear hW g0 r0
  go_wp2
  rw [HW.out]
  clear HW
  have hlt1 := r1.bk.lt
  have p3 : _ = some (Value.int .i64 h.t) := r1.bk.cell 3
  have q4 : _ = some (Value.int .i64 y) := r1.bk.cell 4
  have R1 := Lib.hid r1
  have G1 := Lib.hid g1
  clear g1 r1 q3 p4 f4 hlt0
  go_still_tail 13, (by kernel_rfl)
  change wpList _ _ _ _ _ W.drew
  go_wp2_with fail
  rw [HL.out]
  refine (endif_own _ g _ base cap _ A1 c1 R1.out.drew true 2).mono ?_
  rintro e w2 ⟨rfl, g2, r2⟩
  have G2 := Lib.hid ((grownBy_drew G1.out).trans g2)
  have R2 := Lib.hid r2
  clear g2 r2
  go_wp2
  go_ret
  exact ⟨rfl, G2.out, A1, c1, R2.out⟩

theorem seefirst_ok0 (hR : Rch w g h base cap ms A c) (D : Dq base cap ms) (hb : HdB h) (y : Int) (hy : nth ms (base + 1) = y) (hc : cntOk y (-1)) (hl : ¬ y - h.t < 1) :
    Calls Try.prog 50 #[.pointer (some ⟨g, 0, none⟩)] w (Met g 0 ({ h with b := y }) base cap ms w) := by
  have HL : Hid (decide (y - h.t < 1) = false) := Lib.hid (decide_eq_false hl)
  clear hl
  obtain ⟨hv, ⟨ht1, ht2⟩, hb1, hb2⟩ := hb
  have HD := Lib.hid (loadcount_ok w g h base cap ms A c hR D 1 (by have := D.len; have := D.c1; omega) (-1) y hy hc)
  obtain ⟨hc1, hc2⟩ := hc
  clear hR D hy hv
  go_enter Try.func50, Try.ntmps50
  go_wp2_with fail
  refine HD.out.mono ?_
  rintro e w0 ⟨rfl, g0, A1, c1, r0⟩
  have p4 : _ = some (Value.int .i64 h.b) := r0.bk.cell 4
  have f4 := r0.bk.frozen 4
  have hlt0 := r0.bk.lt
  have q3 : _ = some (Value.int .i64 h.t) := r0.bk.cell 3
  have r1 := r0.set (h' := { h with b := y }) 4 (.int .i64 y) rfl
  have g1 := g0.trans (grown_set (w := w0) (g := g) (i := 4) (.int .i64 y))
  obtain ⟨W, hW⟩ : ∃ W, w0.setCell ⟨g, 4, none⟩ (.int .i64 y) = W := ⟨_, rfl⟩
  rw [hW] at r1 g1
  have HW := Lib.hid hW
  clear hW g0 r0
  go_wp2
  rw [HW.out]
  clear HW
  have hlt1 := r1.bk.lt
  have p3 : _ = some (Value.int .i64 h.t) := r1.bk.cell 3
  have q4 : _ = some (Value.int .i64 y) := r1.bk.cell 4
  have R1 := Lib.hid r1
  have G1 := Lib.hid g1
  clear g1 r1 q3 p4 f4 hlt0
  go_still_tail 13, (by kernel_rfl)
  change wpList _ _ _ _ _ W.drew
  go_wp2_with fail
  rw [HL.out]
  refine (endif_own _ g _ base cap _ A1 c1 R1.out.drew false 2).mono ?_
  rintro e w2 ⟨rfl, g2, r2⟩
  have G2 := Lib.hid ((grownBy_drew G1.out).trans g2)
  have R2 := Lib.hid r2
  clear g2 r2
  go_wp2
  go_ret
  exact ⟨rfl, G2.out, A1, c1, R2.out⟩

theorem seefirst_no1 (hR : Rch w g h base cap ms A c) (D : Dq base cap ms) (hb : HdB h) (y : Int) (hy : nth ms (base + 1) = y) (hc : ¬ cntOk y (-1)) (hl : -h.t < 1) :
    Calls Try.prog 50 #[.pointer (some ⟨g, 0, none⟩)] w (MetE g w) := by
  have HL : Hid (decide (-h.t < 1) = true) := Lib.hid (decide_eq_true hl)
  clear hl
  obtain ⟨hv, ⟨ht1, ht2⟩, hb1, hb2⟩ := hb
  have HD := Lib.hid (loadcount_no w g h base cap ms A c hR D 1 (by have := D.len; have := D.c1; omega) (-1) y hy hc)
  clear hc
  clear hR D hy hv
  go_enter Try.func50, Try.ntmps50
  go_wp2_with fail
  refine HD.out.mono ?_
  rintro e w0 ⟨rfl, g0, A1, c1, r0⟩
  have p4 : _ = some (Value.int .i64 h.b) := r0.bk.cell 4
  have f4 := r0.bk.frozen 4
  have hlt0 := r0.bk.lt
  have q3 : _ = some (Value.int .i64 h.t) := r0.bk.cell 3
  have r1 := r0.set (h' := { h with b := 0 }) 4 (.int .i64 0) rfl
  have g1 := g0.trans (grown_set (w := w0) (g := g) (i := 4) (.int .i64 0))
  obtain ⟨W, hW⟩ : ∃ W, w0.setCell ⟨g, 4, none⟩ (.int .i64 0) = W := ⟨_, rfl⟩
  rw [hW] at r1 g1
  have HW := Lib.hid hW
  clear hW g0 r0
  go_wp2
  rw [HW.out]
  clear HW
  have hlt1 := r1.bk.lt
  have p3 : _ = some (Value.int .i64 h.t) := r1.bk.cell 3
  have q4 : _ = some (Value.int .i64 0) := r1.bk.cell 4
  have R1 := Lib.hid r1
  have G1 := Lib.hid g1
  clear g1 r1 q3 p4 f4 hlt0
  go_still_tail 13, (by kernel_rfl)
  change wpList _ _ _ _ _ W.drew
  go_wp2_with fail
  rw [HL.out]
  refine (endif_own _ g _ base cap _ A1 c1 R1.out.drew true 2).mono ?_
  rintro e w2 ⟨rfl, g2, r2⟩
  have G2 := Lib.hid ((grownBy_drew G1.out).trans g2)
  have R2 := Lib.hid r2
  clear g2 r2
  go_wp2
  go_ret
  exact ⟨rfl, G2.out⟩

theorem seefirst_no0 (hR : Rch w g h base cap ms A c) (D : Dq base cap ms) (hb : HdB h) (y : Int) (hy : nth ms (base + 1) = y) (hc : ¬ cntOk y (-1)) (hl : ¬ -h.t < 1) :
    Calls Try.prog 50 #[.pointer (some ⟨g, 0, none⟩)] w (MetE g w) := by
  have HL : Hid (decide (-h.t < 1) = false) := Lib.hid (decide_eq_false hl)
  clear hl
  obtain ⟨hv, ⟨ht1, ht2⟩, hb1, hb2⟩ := hb
  have HD := Lib.hid (loadcount_no w g h base cap ms A c hR D 1 (by have := D.len; have := D.c1; omega) (-1) y hy hc)
  clear hc
  clear hR D hy hv
  go_enter Try.func50, Try.ntmps50
  go_wp2_with fail
  refine HD.out.mono ?_
  rintro e w0 ⟨rfl, g0, A1, c1, r0⟩
  have p4 : _ = some (Value.int .i64 h.b) := r0.bk.cell 4
  have f4 := r0.bk.frozen 4
  have hlt0 := r0.bk.lt
  have q3 : _ = some (Value.int .i64 h.t) := r0.bk.cell 3
  have r1 := r0.set (h' := { h with b := 0 }) 4 (.int .i64 0) rfl
  have g1 := g0.trans (grown_set (w := w0) (g := g) (i := 4) (.int .i64 0))
  obtain ⟨W, hW⟩ : ∃ W, w0.setCell ⟨g, 4, none⟩ (.int .i64 0) = W := ⟨_, rfl⟩
  rw [hW] at r1 g1
  have HW := Lib.hid hW
  clear hW g0 r0
  go_wp2
  rw [HW.out]
  clear HW
  have hlt1 := r1.bk.lt
  have p3 : _ = some (Value.int .i64 h.t) := r1.bk.cell 3
  have q4 : _ = some (Value.int .i64 0) := r1.bk.cell 4
  have R1 := Lib.hid r1
  have G1 := Lib.hid g1
  clear g1 r1 q3 p4 f4 hlt0
  go_still_tail 13, (by kernel_rfl)
  change wpList _ _ _ _ _ W.drew
  go_wp2_with fail
  rw [HL.out]
  refine (endif_own _ g _ base cap _ A1 c1 R1.out.drew false 2).mono ?_
  rintro e w2 ⟨rfl, g2, r2⟩
  have G2 := Lib.hid ((grownBy_drew G1.out).trans g2)
  have R2 := Lib.hid r2
  clear g2 r2
  go_wp2
  go_ret
  exact ⟨rfl, G2.out⟩

theorem storenumber_no (hR : Rch w g h base cap ms A c) (_ : Dq base cap ms) (_ : HdB h) (hn : h.b < 0) :
    Calls Try.prog 41 #[.pointer (some ⟨g, 0, none⟩)] w (MetE g w) := by
  have c4 : _ = some (Value.int .i64 h.b) := hR.bk.cell 4
  have hlt := hR.bk.lt
  clear hR
  go_enter Try.func41, Try.ntmps41
  go_wp2
  go_ret
  exact ⟨rfl, World.grownBy.refl _ _⟩

theorem storenumber_ok (hR : Rch w g h base cap ms A c) (D : Dq base cap ms) (hb : HdB h) (hn : 0 ≤ h.b) :
    Calls Try.prog 41 #[.pointer (some ⟨g, 0, none⟩)] w (Met g 0 h base cap (ms.set (slI base cap h.b) h.v) w) := by
  have c4 : _ = some (Value.int .i64 h.b) := hR.bk.cell 4
  have hlt := hR.bk.lt
  have HR := Lib.hid hR
  have DD := Lib.hid D
  have d1 := D.c1
  have d2 := D.c2
  have HV := Lib.hid hb.v
  clear hR D hb
  go_enter Try.func41, Try.ntmps41
  go_wp2
  refine calmT_region 16 (S := fun U => Below w.heap.size w U) (by kernel_rfl) (by kernel_rfl) (Below.refl _ _).drew ?_
  refine calmT_to (i := 0) (t := 9) (v := .pointer (some ⟨g, 0, none⟩)) rfl rfl (by decide) (by kernel_rfl) (by kernel_rfl) (fun _ _ _ h => h) (calm_move rfl (.tmp 0) (.inl rfl) rfl) ?_
  simp only [List.setIfInBounds_toArray, List.set_cons_zero, List.set_cons_succ]
  refine calmT_to (i := 1) (t := 10) (v := .pointer (some ⟨g, 0, none⟩)) rfl rfl (by decide) (by kernel_rfl) (by kernel_rfl) (fun _ _ _ h => h) (calm_move rfl (.tmp 0) (.inl rfl) rfl) ?_
  simp only [List.setIfInBounds_toArray, List.set_cons_zero, List.set_cons_succ]
  refine calmT_to (i := 2) (t := 11) (v := .pointer (some ⟨g, 0, none⟩)) rfl rfl (by decide) (by kernel_rfl) (by kernel_rfl) (fun _ _ _ h => h) (calm_of rfl (fun U hU => by go_simp)) ?_
  simp only [List.setIfInBounds_toArray, List.set_cons_zero, List.set_cons_succ]
  refine calmT_to (i := 3) (t := 12) (v := .pointer (some ⟨g, 7, none⟩)) rfl rfl (by decide) (by kernel_rfl) (by kernel_rfl) (fun _ _ _ h => h) (calm_of rfl (fun U hU => by go_simp)) ?_
  simp only [List.setIfInBounds_toArray, List.set_cons_zero, List.set_cons_succ]
  refine calmT_to (i := 4) (t := 13) (v := .agg #[.int .i64 base, .int .i64 cap]) rfl rfl (by decide) (by kernel_rfl) (by kernel_rfl) (fun _ _ _ h => h) (calm_of rfl (fun U hU => by have q7 : _ = some (Value.int .i64 base) := (HR.out.bk.below hU HR.out.bk.lt).cell 7; have q8 : _ = some (Value.int .i64 cap) := (HR.out.bk.below hU HR.out.bk.lt).cell 8; go_simp)) ?_
  simp only [List.setIfInBounds_toArray, List.set_cons_zero, List.set_cons_succ]
  refine calmT_to (i := 5) (t := 14) (v := .pointer (some ⟨g, 0, none⟩)) rfl rfl (by decide) (by kernel_rfl) (by kernel_rfl) (fun _ _ _ h => h) (calm_move rfl (.tmp 0) (.inl rfl) rfl) ?_
  simp only [List.setIfInBounds_toArray, List.set_cons_zero, List.set_cons_succ]
  refine calmT_to (i := 6) (t := 15) (v := .pointer (some ⟨g, 0, none⟩)) rfl rfl (by decide) (by kernel_rfl) (by kernel_rfl) (fun _ _ _ h => h) (calm_of rfl (fun U hU => by go_simp)) ?_
  simp only [List.setIfInBounds_toArray, List.set_cons_zero, List.set_cons_succ]
  refine calmT_to (i := 7) (t := 16) (v := .pointer (some ⟨g, 0, none⟩)) rfl rfl (by decide) (by kernel_rfl) (by kernel_rfl) (fun _ _ _ h => h) (calm_of rfl (fun U hU => by go_simp)) ?_
  simp only [List.setIfInBounds_toArray, List.set_cons_zero, List.set_cons_succ]
  refine calmT_to (i := 8) (t := 17) (v := .pointer (some ⟨g, 4, none⟩)) rfl rfl (by decide) (by kernel_rfl) (by kernel_rfl) (fun _ _ _ h => h) (calm_of rfl (fun U hU => by go_simp)) ?_
  simp only [List.setIfInBounds_toArray, List.set_cons_zero, List.set_cons_succ]
  refine calmT_to (i := 9) (t := 18) (v := .int .i64 h.b) rfl rfl (by decide) (by kernel_rfl) (by kernel_rfl) (fun _ _ _ h => h) (calm_of rfl (fun U hU => by have q4 : _ = some (Value.int .i64 h.b) := (HR.out.bk.below hU HR.out.bk.lt).cell 4; go_simp)) ?_
  simp only [List.setIfInBounds_toArray, List.set_cons_zero, List.set_cons_succ]
  refine calmT_to (i := 10) (t := 19) (v := .int .i64 (slR cap h.b)) rfl rfl (by decide) (by kernel_rfl) (by kernel_rfl) (fun _ _ _ h => h) (calm_call2 rfl 30 (.tmp 13) (.tmp 18) #[25, 2] rfl (enters_of Try.func30 (by kernel_rfl) rfl) (.agg #[.int .i64 base, .int .i64 cap]) (.int .i64 h.b) rfl rfl (fun U hU => (slotat_any base cap h.b U d1 d2 hn).mono fun _ _ q => ⟨q.1, hU.trans (q.2.mono hU.size)⟩)) ?_
  simp only [List.setIfInBounds_toArray, List.set_cons_zero, List.set_cons_succ]
  refine calmT_to (i := 11) (t := 20) (v := .pointer (some ⟨g, 0, none⟩)) rfl rfl (by decide) (by kernel_rfl) (by kernel_rfl) (fun _ _ _ h => h) (calm_move rfl (.tmp 0) (.inl rfl) rfl) ?_
  simp only [List.setIfInBounds_toArray, List.set_cons_zero, List.set_cons_succ]
  refine calmT_to (i := 12) (t := 21) (v := .pointer (some ⟨g, 0, none⟩)) rfl rfl (by decide) (by kernel_rfl) (by kernel_rfl) (fun _ _ _ h => h) (calm_of rfl (fun U hU => by go_simp)) ?_
  simp only [List.setIfInBounds_toArray, List.set_cons_zero, List.set_cons_succ]
  refine calmT_to (i := 13) (t := 22) (v := .pointer (some ⟨g, 0, none⟩)) rfl rfl (by decide) (by kernel_rfl) (by kernel_rfl) (fun _ _ _ h => h) (calm_of rfl (fun U hU => by go_simp)) ?_
  simp only [List.setIfInBounds_toArray, List.set_cons_zero, List.set_cons_succ]
  refine calmT_to (i := 14) (t := 23) (v := .pointer (some ⟨g, 2, none⟩)) rfl rfl (by decide) (by kernel_rfl) (by kernel_rfl) (fun _ _ _ h => h) (calm_of rfl (fun U hU => by go_simp)) ?_
  simp only [List.setIfInBounds_toArray, List.set_cons_zero, List.set_cons_succ]
  refine calmT_to (i := 15) (t := 24) (v := .int .i64 h.v) rfl rfl (by decide) (by kernel_rfl) (by kernel_rfl) (fun _ _ _ h => h) (calm_of rfl (fun U hU => by have q2 : _ = some (Value.int .i64 h.v) := (HR.out.bk.below hU HR.out.bk.lt).cell 2; go_simp)) ?_
  simp only [List.setIfInBounds_toArray, List.set_cons_zero, List.set_cons_succ]
  refine calmT_done _ rfl rfl (by kernel_rfl) ?_
  intro U hU
  have RU : Rch U g h base cap ms A c := ⟨HR.out.bk.below hU HR.out.bk.lt, HR.out.ints.below hU, HR.out.ne⟩
  have hd := mstore_any U g h base cap ms A c RU DD.out (slR cap h.b) (by have := slR_lt d1 hn; have := DD.out.len; omega) h.v HV.out
  rw [slR_add] at hd
  have HD := Lib.hid hd
  have BU := Lib.hid hU
  clear hd RU hU c4
  go_wp2_with fail
  refine HD.out.mono ?_
  rintro e w1 ⟨rfl, g1, A1, c1, r1⟩
  have G1 := Lib.hid ((Below.gb BU.out).trans g1)
  have R1 := Lib.hid r1
  clear g1 r1
  go_wp2
  go_ret
  exact ⟨rfl, G1.out, A1, c1, R1.out⟩

end

end Go.Proofs.Ytfmiamjbhlglbaa

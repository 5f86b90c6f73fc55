/-
  What layer 10's laws have in common: variables that hold semaphores; the chapter's example comes to true.
-/
import Derived.Test.YtokmogfnliccjaaPt
namespace Go.Proofs.Ytokmogfnliccjaa
open Go.RowKit

/-- A variable that holds a semaphore. -/
structure SV (w : World) (g : Nat) (z : Int) (A : Option Addr) (n c : Nat) (l : List Int) : Prop where
  k : Bk w g 24 #[.int .i64 z, .slice A n c]
  s : SemW w z A n c l
theorem SV.below {w w' : World} {g : Nat} {z : Int} {A : Option Addr} {n c : Nat} {l : List Int} (h : SV w g z A n c l) (hb : Below w.heap.size w w') : SV w' g z A n c l := ⟨h.k.below hb h.k.lt, h.s.below hb⟩
/-- Set to another one, whose row lies elsewhere. -/
theorem SV.set_ {w : World} {g : Nat} {z y : Int} {A B : Option Addr} {n c m d : Nat} {l p : List Int} (h : SV w g z A n c l) (hs : SemW w y B m d p) (hne : ∀ b o, B = some ⟨b, o, none⟩ → 0 < m → b ≠ g) :
    SV ((w.setCell ⟨g, 0, none⟩ (.int .i64 y)).setCell ⟨g, 1, none⟩ (.slice B m d)) g y B m d p :=
  ⟨by simpa using (h.k.set_ 0 (.int .i64 y)).set_ 1 (.slice B m d), hs.f, ⟨hs.x.1, hs.x.2.1, hs.x.2.2.1, fun hm => by
    obtain ⟨b, o, e, hb, hc⟩ := hs.x.2.2.2 hm
    exact ⟨b, o, e, by simpa [World.setCell] using hb, fun j hj => (cell_set2 (by exact hne b o e hm) _ _).trans (hc j hj)⟩⟩, hs.c⟩

theorem OwnI.away {E : TypeId} {w : World} {base : Nat} {A : Option Addr} {c : Nat} {zs : List Int} (h : OwnI E w base A c zs) {g : Nat} (hg : g < base) : ∀ b o, A = some ⟨b, o, none⟩ → 0 < zs.length → b ≠ g := by
  intro b o e _
  have := h.block (n := 0) (d := 0) b (by rw [e]; rfl)
  omega

theorem ok_one (z : Int) (h : 0 ≤ z ∧ z ≤ 1000) : semOk z [] := (semOk_new z).2 h
theorem live_new : newR 1 = (0, 1, []) := by unfold newR; rw [if_pos (by decide)]
theorem live_take1 : takeR 1 [] 5 = (0, true, 0, []) := by unfold takeR; rw [if_neg (fun q => q (ok_one 1 (by decide))), if_neg (by decide), if_neg (by simp), if_pos (by decide)]; rfl
theorem live_take2 : takeR 0 [] 6 = (0, false, 0, [6]) := by unfold takeR; rw [if_neg (fun q => q (ok_one 0 (by decide))), if_neg (by decide), if_neg (by simp), if_neg (by decide), if_neg (by decide)]; rfl
theorem ok_six : semOk 0 [6] := ⟨by decide, by decide, by decide, .inl (by decide), fun i hi => by
  obtain rfl : i = 0 := by simp at hi; exact hi
  exact ⟨by decide, by simp⟩⟩
theorem live_give : giveR 0 [6] = (0, 6, 0, []) := by unfold giveR; rw [if_neg (fun q => q ok_six), if_pos (by decide)]; rfl

set_option maxHeartbeats 4000000 in
theorem live_any (w : World) : Calls Try.prog 8 #[] w (RetB (.bool true) w) := by
  go_enter Try.func8, Try.ntmps8
  go_wp2_with fail
  refine (pnewC_any 1 _ (by decide)).mono ?_
  rw [live_new]
  rintro e w1 ⟨A1, c1, rfl, o1, b1⟩
  have BB := Lib.hid b1
  clear b1
  have ba := (Below.refl w1.heap.size w1).alloc (Nat.le_refl _) (.cells #[.int .i64 1, .slice A1 0 c1] 24)
  have ka := Bk.new w1 24 #[.int .i64 1, .slice A1 0 c1]
  have sa := SemW.own (z := 1) (o1.below ba) (by decide) rfl
  have nbb := below3 BB.out ba
  obtain ⟨g, hg⟩ : ∃ g, w1.heap.size = g := ⟨_, rfl⟩
  have hgb := BB.out.size
  obtain ⟨V, hV⟩ : ∃ V, w1.alloc (.cells #[.int .i64 1, .slice A1 0 c1] 24) = V := ⟨_, rfl⟩
  rw [hV] at ka sa nbb
  rw [hg] at ka hgb
  have HV := Lib.hid hV
  have Hg := Lib.hid hg
  have HBg := Lib.hid hgb
  have Sg := Lib.hid (SV.mk ka sa)
  replace BB := Lib.hid nbb
  clear ba ka sa nbb hgb hg hV
  go_upto_region 2 with fail
  rw [HV.out]
  try rw [Hg.out]
  clear HV Hg
  clear o1
  have a0 := Sg.out.k.c0
  have a1 := Sg.out.k.c1
  have lg := Sg.out.k.lt
  go_wp2_with fail
  refine (ptakeC_any 1 A1 0 c1 [] 5 _ Sg.out.s (by decide)).mono ?_
  rw [live_take1]
  rintro e w2 ⟨A2, c2, rfl, o, b⟩
  have SZ := Lib.hid Sg.out.k.lt
  clear a0 a1 lg
  replace Sg := Lib.hid (Sg.out.below b)
  replace BB := Lib.hid (below3 BB.out b)
  clear b
  have a0 := Sg.out.k.c0
  have a1 := Sg.out.k.c1
  have lg := Sg.out.k.lt
  have s3 := Sg.out.set_ (SemW.own (n := 0) (z := 0) o (by decide) rfl) (o.away SZ.out)
  have nbb := below_set2 (g := g) BB.out HBg.out (.int .i64 0) (.slice A2 0 c2)
  have f0 := Sg.out.k.frozen 0
  have f1 := Sg.out.k.frozen 1
  obtain ⟨W2, hW⟩ : ∃ W, (w2.setCell ⟨g, 0, none⟩ (.int .i64 0)).setCell ⟨g, 1, none⟩ (.slice A2 0 c2) = W := ⟨_, rfl⟩
  rw [hW] at s3 nbb
  have HW := Lib.hid hW
  clear Sg BB
  have Sg := Lib.hid s3
  have BB := Lib.hid nbb
  clear s3 nbb hW o SZ
  go_upto_region 3 with fail
  rw [HW.out]
  clear HW f0 f1
  clear a0 a1 lg
  have a0 := Sg.out.k.c0
  have a1 := Sg.out.k.c1
  have lg := Sg.out.k.lt
  go_wp2_with fail
  refine (ptakeC_any 0 A2 0 c2 [] 6 _ Sg.out.s (by decide)).mono ?_
  rw [live_take2]
  rintro e w3 ⟨A3, c3, rfl, o, b⟩
  have SZ := Lib.hid Sg.out.k.lt
  clear a0 a1 lg
  replace Sg := Lib.hid (Sg.out.below b)
  replace BB := Lib.hid (below3 BB.out b)
  clear b
  have a0 := Sg.out.k.c0
  have a1 := Sg.out.k.c1
  have lg := Sg.out.k.lt
  have s3 := Sg.out.set_ (SemW.own (n := 1) (z := 0) o (by decide) rfl) (o.away SZ.out)
  have nbb := below_set2 (g := g) BB.out HBg.out (.int .i64 0) (.slice A3 1 c3)
  have f0 := Sg.out.k.frozen 0
  have f1 := Sg.out.k.frozen 1
  obtain ⟨W3, hW⟩ : ∃ W, (w3.setCell ⟨g, 0, none⟩ (.int .i64 0)).setCell ⟨g, 1, none⟩ (.slice A3 1 c3) = W := ⟨_, rfl⟩
  rw [hW] at s3 nbb
  have HW := Lib.hid hW
  clear Sg BB
  have Sg := Lib.hid s3
  have BB := Lib.hid nbb
  clear s3 nbb hW o SZ
  go_upto_region 4 with fail
  rw [HW.out]
  clear HW f0 f1
  clear a0 a1 lg
  have a0 := Sg.out.k.c0
  have a1 := Sg.out.k.c1
  have lg := Sg.out.k.lt
  go_wp2_with fail
  refine (pgiveC_any 0 A3 1 c3 [6] _ Sg.out.s).mono ?_
  rw [live_give]
  rintro e w4 ⟨A4, c4, rfl, o, b⟩
  have HF := Lib.hid ((below3 BB.out b).alloc (below3 BB.out b).size (.cells #[.int .i64 0, .slice A4 0 c4] 24))
  clear o b BB Sg
  clear a0 a1 lg
  go_wp2_with fail
  go_ret
  exact ⟨rfl, HF.out⟩

end Go.Proofs.Ytokmogfnliccjaa

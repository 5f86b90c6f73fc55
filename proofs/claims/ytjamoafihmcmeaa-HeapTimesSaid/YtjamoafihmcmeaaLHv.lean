/-
  What layer 8's laws have in common: the chapter's example comes to true; a heap that fits a list does.
-/
import Derived.Test.YtjamoafihmcmeaaHu
namespace Go.Proofs.Ytjamoafihmcmeaa
open Go.RowKit

theorem heapOk_nil : heapOk [] := ⟨by decide, fun i hi => absurd hi (Nat.not_lt_zero _)⟩
theorem addSpec_ok {l : List Tm} {t : Tm} {e : Int} {a : List Tm} (h : AddSpec l t e a) (h1 : heapOk l) (h2 : mayT t) (h3 : ¬ hasId l t.2) (h4 : l.length ≠ 256) : e = 0 ∧ heapOk a ∧ a.Perm (t :: l) := by
  obtain ⟨he, _, h0⟩ := h
  have e0 : e = 0 := by rw [he, addR, if_pos ⟨h1, h2⟩, if_neg h3, if_neg h4]
  exact ⟨e0, h0 e0⟩
theorem perm_one {a : List Tm} {x : Tm} (h : a.Perm [x]) : a = [x] := List.perm_singleton.1 h

theorem live_any (w : World) : Calls Try.prog 10 #[] w (RetB (.bool true) w) := by
  go_enter Try.func10, Try.ntmps10
  go_wp2_with fail
  refine (padd_any none 0 0 [] 9 5 _ (Tms.nil_ _ _ (by decide)) (by decide) (by decide)).mono ?_
  rintro e w1 ⟨A1, c1, a1, z1, rfl, s1, o1, b1⟩
  obtain ⟨rfl, hk1, hp1⟩ := addSpec_ok s1 heapOk_nil (by decide) (by rintro ⟨j, hj, _⟩; exact absurd hj (Nat.not_lt_zero _)) (by decide)
  have ha1 := perm_one hp1
  subst ha1
  have HK1 := Lib.hid hk1
  have O1 := Lib.hid o1
  have B1 := Lib.hid b1
  clear s1 hk1 hp1 o1 b1
  go_wp2_with fail
  refine (padd_any A1 _ c1 [(9, 5)] 3 6 _ O1.out.tms (by decide) (by decide)).mono ?_
  rintro e w2 ⟨A2, c2, a2, z2, rfl, s2, o2, b2⟩
  obtain ⟨rfl, hk2, hp2⟩ := addSpec_ok s2 HK1.out (by decide) (by rw [hasId_iff]; decide) (by decide)
  have hl2 : leastR a2 = (0, (3, 6)) := by
    have ho : orderF a2 = [(3, 6), (9, 5)] := orderF_of_srt (by unfold Srt leT lessT; simp) hp2.symm
    rw [leastR, if_pos hk2, if_neg (by rw [hp2.length_eq]; decide), ho]
    rfl
  have HL2 := Lib.hid hl2
  have O2 := Lib.hid o2
  have B2 := Lib.hid (below3 B1.out b2)
  clear s2 hk2 hp2 o2 b2 hl2
  go_wp2_with fail
  refine (pleast_any A2 _ c2 a2 _ O2.out.tms).mono ?_
  rw [HL2.out]
  rintro e w3 ⟨rfl, b3⟩
  have B3 := Lib.hid (below3 B2.out b3)
  clear b3
  have k4 := Bk.new w3 24 #[.int .i64 3, .int .i64 6]
  have c0 : _ = some (Value.int .i64 3) := k4.cell 0
  have c1 : _ = some (Value.int .i64 6) := k4.cell 1
  have B4 := Lib.hid (below3 B3.out ((Below.refl w3.heap.size w3).alloc (Nat.le_refl _) (.cells #[.int .i64 3, .int .i64 6] 24)))
  clear k4
  go_wp2_with fail
  go_ret
  exact ⟨rfl, B4.out⟩

theorem fits_yes (A B : Option Addr) (c d : Nat) (a b : List Tm) (z : Int) (w : World) (ha : Tms w A a.length c a) (hb : Tms w B b.length d b) (h : (z ≠ 0 ∧ a = []) ∨ (z = 0 ∧ heapOk a ∧ a.Perm b)) (hn : b.length ≤ 1000) :
    Calls Try.prog 17 #[.slice A a.length c, .int .i64 z, .slice B b.length d, .int .i64 z] w (RetB (.bool true) w) := by
  rcases h with ⟨hz, rfl⟩ | ⟨rfl, hk, hp⟩
  · have t0 : (z != 0) = true := by simpa using hz
    clear hz ha hb
    go_enter Try.func17, Try.ntmps17
    go_wp2_with fail
    go_ret
    exact ⟨rfl, Below.refl _ _⟩
  · have hlen := hp.length_eq
    have HC := Lib.hid (if_pos hk ▸ rcheck_any A _ c a w ha)
    have HS := Lib.hid (fun w' (hw : Below w.heap.size w w') => same8_any A B _ c _ d a b w' (ha.below hw) (hb.below hw) (by omega) hn)
    have he : sameT (orderF a) (orderF b) = true := by rw [sameO, decide_eq_true hp]
    rw [he] at HS
    clear ha hb hk hp hlen he
    go_enter Try.func17, Try.ntmps17
    go_wp2_with fail
    refine HC.out.mono ?_
    rintro e w1 ⟨rfl, b1⟩
    have B1 := Lib.hid b1
    clear b1
    go_wp2_with fail
    refine (HS.out _ B1.out).mono ?_
    rintro e w2 ⟨rfl, b2⟩
    have B2 := Lib.hid (below3 B1.out b2)
    clear b2
    go_wp2_with fail
    go_ret
    exact ⟨rfl, B2.out⟩

end Go.Proofs.Ytjamoafihmcmeaa

/-
  The chapter's example: true; and 'few'.
-/
import Derived.Test.YtiheeehegjfmgaaMv
namespace Go.Proofs.Ytiheeehegjfmgaa
open Go.RowKit

/-- Chains are stored in a variable's block; the rows lie above it. -/
theorem ownk_store {W : World} {base g : Nat} {A B D : Option Addr} {a b d : Nat} {next head tail : List Int} (h : OwnK W base A a B b D d next head tail) (hg : g < base) (v0 v1 v2 : Value) :
    OwnK (((W.setCell ⟨g, 0, none⟩ v0).setCell ⟨g, 1, none⟩ v1).setCell ⟨g, 2, none⟩ v2) base A a B b D d next head tail := ((h.far (j := 0) hg v0).far (j := 1) hg v1).far (j := 2) hg v2
theorem bk_store {W : World} {g : Nat} {T : TypeId} {x0 x1 x2 : Value} (h : Bk W g T #[x0, x1, x2]) (v0 v1 v2 : Value) : Bk (((W.setCell ⟨g, 0, none⟩ v0).setCell ⟨g, 1, none⟩ v1).setCell ⟨g, 2, none⟩ v2) g T #[v0, v1, v2] := ((h.set_ 0 v0).set_ 1 v1).set_ 2 v2
theorem below_store {w W : World} (h : Below w.heap.size w W) {g : Nat} (hg : w.heap.size ≤ g) (v0 v1 v2 : Value) : Below w.heap.size w (((W.setCell ⟨g, 0, none⟩ v0).setCell ⟨g, 1, none⟩ v1).setCell ⟨g, 2, none⟩ v2) :=
  ((h.setCell (p := ⟨g, 0, none⟩) hg v0).setCell (p := ⟨g, 1, none⟩) hg v1).setCell (p := ⟨g, 2, none⟩) hg v2

set_option maxHeartbeats 4000000 in
theorem live_any (w : World) : Calls Try.prog 9 #[] w (RetB (.bool true) w) := by
  obtain ⟨N1, H1, T1, l1, r1, c1⟩ := new_moves 4 1 (by omega) (by omega) (by omega)
  have q0 : qth (List.replicate 1 ([] : List Int)) 0 = [] := rfl
  obtain ⟨N2, H2, T2, l2, r2, c2⟩ := push_moves r1 (i := 0) (x := 3) (by simp) (by omega) (fun j hj hm => by
    have hj' : j < 1 := by simpa using hj
    obtain rfl : j = 0 := by omega
    rw [q0] at hm; cases hm)
  have q1 : (List.replicate 1 ([] : List Int)).set 0 (qth (List.replicate 1 ([] : List Int)) 0 ++ [((3 : Nat) : Int)]) = [[3]] := rfl
  rw [q1] at r2
  obtain ⟨N3, H3, T3, l3, r3, c3⟩ := push_moves r2 (i := 0) (x := 1) (by simp) (by omega) (fun j hj hm => by
    have hj' : j < 1 := by simpa using hj
    obtain rfl : j = 0 := by omega
    have : qth [[(3 : Int)]] 0 = [3] := rfl
    rw [this] at hm
    simp at hm)
  have q2 : ([[(3 : Int)]] : List (List Int)).set 0 (qth [[(3 : Int)]] 0 ++ [((1 : Nat) : Int)]) = [[3, 1]] := rfl
  rw [q2] at r3
  obtain ⟨N4, H4, T4, l4, r4, c4⟩ := pop_moves r3 (i := 0) (x := 3) (by simp) (by show 0 < 2; omega) rfl
  clear r1 r2 r3 r4 q0 q1 q2 l1 l2 l3 l4
  have C1 := Lib.hid c1
  have C2 := Lib.hid c2
  have C3 := Lib.hid c3
  have C4 := Lib.hid c4
  clear c1 c2 c3 c4
  go_enter Try.func9, Try.ntmps9
  go_wp2_with first
    | (go_at_call 21; refine (C1.out w).mono ?_; rintro e w1 ⟨A1, a1, B1, b1, D1, d1, rfl, k1, hb1⟩; have V1 := Bk.new w1 24 #[.slice A1 N1.length a1, .slice B1 H1.length b1, .slice D1 T1.length d1]; have HB1 := Lib.hid (hb1.alloc hb1.size (.cells #[.slice A1 N1.length a1, .slice B1 H1.length b1, .slice D1 T1.length d1] 24)); have HK1 := Lib.hid (k1.below ((Below.refl w1.heap.size w1).alloc (Nat.le_refl _) (.cells #[.slice A1 N1.length a1, .slice B1 H1.length b1, .slice D1 T1.length d1] 24))); have u0 := V1.e0; have u1 := V1.e1; have u2 := V1.e2; have HS1 := Lib.hid hb1.size; clear k1 hb1 C1)
    | (go_at_call 12; refine (C2.out A1 B1 D1 N1.length a1 H1.length b1 T1.length d1 _ HK1.out.c.chn).mono ?_; rintro e w2 ⟨A2, a2, B2, b2, D2, d2, rfl, k2, hb2⟩; have V2 := V1.below hb2 V1.lt; have HB2 := Lib.hid (below_store (below3 HB1.out hb2) HS1.out (.slice A2 N2.length a2) (.slice B2 H2.length b2) (.slice D2 T2.length d2)); have HK2 := Lib.hid (ownk_store k2 V1.lt (.slice A2 N2.length a2) (.slice B2 H2.length b2) (.slice D2 T2.length d2)); have V2s := bk_store V2 (.slice A2 N2.length a2) (.slice B2 H2.length b2) (.slice D2 T2.length d2); have u0 := V2.e0; have u1 := V2.e1; have u2 := V2.e2; have g0 := V2.frozen 0; have g1 := V2.frozen 1; have g2 := V2.frozen 2; clear k2 hb2 C2)
    | (go_at_call 12; refine (C3.out A2 B2 D2 N2.length a2 H2.length b2 T2.length d2 _ HK2.out.c.chn).mono ?_; rintro e w3 ⟨A3, a3, B3, b3, D3, d3, rfl, k3, hb3⟩; have V3 := V2s.below hb3 V2s.lt; have HB3 := Lib.hid (below_store (below3 HB2.out hb3) HS1.out (.slice A3 N3.length a3) (.slice B3 H3.length b3) (.slice D3 T3.length d3)); have HK3 := Lib.hid (ownk_store k3 V2s.lt (.slice A3 N3.length a3) (.slice B3 H3.length b3) (.slice D3 T3.length d3)); have V3s := bk_store V3 (.slice A3 N3.length a3) (.slice B3 H3.length b3) (.slice D3 T3.length d3); have u0 := V3.e0; have u1 := V3.e1; have u2 := V3.e2; have g0 := V3.frozen 0; have g1 := V3.frozen 1; have g2 := V3.frozen 2; clear k3 hb3 C3)
    | (go_at_call 14; refine (C4.out A3 B3 D3 N3.length a3 H3.length b3 T3.length d3 _ HK3.out.c.chn).mono ?_; rintro e w4 ⟨A4, a4, B4, b4, D4, d4, rfl, k4, hb4⟩; have HB4 := Lib.hid ((below3 HB3.out hb4).alloc (below3 HB3.out hb4).size (.cells #[.slice A4 N4.length a4, .slice B4 H4.length b4, .slice D4 T4.length d4] 24)); clear k4 hb4 C4)
  go_ret
  exact ⟨rfl, HB4.out⟩

end Go.Proofs.Ytiheeehegjfmgaa

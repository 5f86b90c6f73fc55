/-
  Layer 19, the document: Same of configs, FewConfig.
-/
import Derived.Test.YtpfnoohcilefhaaEna
import Derived.Test.YtpfnoohcilefhaaAll
import Derived.Test.YtpfnoohcilefhaaSameL
namespace Go.Proofs.Ytpfnoohcilefhaa
open Go.RowKit

set_option maxHeartbeats 400000 in
theorem sameIntsE_any (A A' : Option Addr) (n c n' c' : Nat) (xs ys : List Int) (w : World) (hx : Ints w A n xs) (hy : Ints w A' n' ys) :
    Calls Try.prog 35 #[.slice A n c, .slice A' n' c'] w (RetB (.bool (sameB xs ys)) w) := by
  obtain ⟨lx, bx, _, cx⟩ := hx
  obtain ⟨ly, by_, _, cy⟩ := hy
  by_cases hn : n = n'
  · subst hn
    have CX := Lib.hid cx
    have CY := Lib.hid cy
    have LX := Lib.hid lx
    have LY := Lib.hid ly
    clear cx cy lx ly
    go_enter Try.func35, Try.ntmps35
    go_wp2
    go_loopw [13] (fun t wr => ∃ k : Nat, k ≤ n ∧ t = .int .i64 k ∧ (∃ d, wr = w.drewN d) ∧ Hid (∀ j, j < k → nth xs j = nth ys j)) (fun t _ => n - (intOf t).toNat)
    case atStart => exact ⟨0, Nat.zero_le _, rfl, ⟨0, rfl⟩, fun j hj => by omega⟩
    case round =>
      obtain ⟨k, hk, rfl, ⟨d, rfl⟩, hall⟩ := hrel
      by_cases hlt : k < n
      · obtain ⟨b, o, rfl, hb, hc⟩ := CX.out (by omega)
        obtain ⟨b', o', rfl, hb', hc'⟩ := CY.out (by omega)
        have c1 := hc k hlt
        have c2 := hc' k hlt
        clear hc hc'
        by_cases he : nth xs k = nth ys k
        · have hs : (nth xs k != nth ys k) = false := by rw [he]; simp
          go_wp2
          go_quiet (fail)
          go_wp2
          go_roundw
          case rel => exact ⟨k + 1, by omega, by go_num, ⟨_, rfl⟩, fun j hj => by rcases Nat.lt_or_ge j k with h | h; exact hall j h; rwa [show j = k from by omega]⟩
          case measure => simp [intOf]; omega
        · have hs : (nth xs k != nth ys k) = true := by simpa using he
          have HF := Lib.hid (sameB_at k he)
          clear he
          go_wp2
          go_quiet (fail)
          go_wp2
          go_ret
          exact RetB.of (ret_bool HF.out.symm) (below_drewN (below_drewN (Below.refl _ _) d) _)
      · have : k = n := by omega
        subst this
        have HF := Lib.hid (sameB_all LX.out LY.out hall)
        go_wp2
        go_ret
        exact RetB.of (ret_bool HF.out.symm) (below_drewN (Below.refl _ _) d)
  · have hne : ((n : Int) != (n' : Int)) = true := by simp; omega
    have hf : sameB xs ys = false := sameB_len (by omega)
    have HF := Lib.hid hf
    clear hf lx ly
    go_enter Try.func35, Try.ntmps35
    go_wp2
    go_ret
    exact RetB.of (ret_bool HF.out.symm) (Below.refl _ _)

/-- A config: six numbers, three rows of numbers, its programs. -/
structure Cf where
  wk : Int
  cp : Int
  bd : Int
  ws : List Int
  qs : List Int
  P : List (List I3)
  tk : Int
  fd : Int
  sm : List Int
/-- Where its rows lie. -/
structure CfA where
  A : Option Addr
  n : Nat
  c : Nat
  B : Option Addr
  m : Nat
  d : Nat
  F : Option Addr
  q : Nat
  e : Nat
  G : Option Addr
  r : Nat
  h : Nat
def cfc (x : Cf) (a : CfA) : Array Value := #[.int .i64 x.wk, .int .i64 x.cp, .int .i64 x.bd, .slice a.A a.n a.c, .slice a.B a.m a.d, .slice a.F a.q a.e, .int .i64 x.tk, .int .i64 x.fd, .slice a.G a.r a.h]
structure CfR (w : World) (x : Cf) (a : CfA) : Prop where
  ws : Ints w a.A a.n x.ws
  qs : Ints w a.B a.m x.qs
  P : Prgs w a.F a.q x.P
  sm : Ints w a.G a.r x.sm
theorem CfR.below {w w' : World} {x : Cf} {a : CfA} (h : CfR w x a) (hb : Below w.heap.size w w') : CfR w' x a := ⟨h.ws.below hb, h.qs.below hb, h.P.below hb, h.sm.below hb⟩
section
variable {w : World} {g : Nat} {t : TypeId} {c0 c1 c2 c3 c4 c5 c6 c7 c8 : Value}
theorem Bk.c9e (h : Bk w g t #[c0, c1, c2, c3, c4, c5, c6, c7, c8]) : w.cell? ⟨g, 0, none⟩ = some c0 ∧ w.cell? ⟨g, 1, none⟩ = some c1 ∧ w.cell? ⟨g, 2, none⟩ = some c2 ∧ w.cell? ⟨g, 3, none⟩ = some c3 ∧ w.cell? ⟨g, 4, none⟩ = some c4 ∧ w.cell? ⟨g, 5, none⟩ = some c5 ∧ w.cell? ⟨g, 6, none⟩ = some c6 ∧ w.cell? ⟨g, 7, none⟩ = some c7 ∧ w.cell? ⟨g, 8, none⟩ = some c8 :=
  ⟨h.cell 0, h.cell 1, h.cell 2, h.cell 3, h.cell 4, h.cell 5, h.cell 6, h.cell 7, h.cell 8⟩
end
/-- Are all parts of two configs the same? -/
def sameCf (x y : Cf) : Bool := (x.wk == y.wk) && (x.cp == y.cp) && (x.bd == y.bd) && sameB x.ws y.ws && sameB x.qs y.qs && sameL x.P y.P && (x.tk == y.tk) && (x.fd == y.fd) && sameB x.sm y.sm
def fewCf (x : Cf) : Bool := fewB x.P && decide (x.ws.length ≤ 100) && decide (x.qs.length ≤ 100) && decide (x.sm.length ≤ 100)

set_option maxRecDepth 100000 in
set_option maxHeartbeats 8000000 in
theorem rsameCf_any (x y : Cf) (a b : CfA) (w : World) (hx : CfR w x a) (hy : CfR w y b) :
    Calls Try.prog 13 #[.agg (cfc x a), .agg (cfc y b)] w (RetB (.bool (sameCf x y)) w) := by
  obtain ⟨wk, cp, bd, ws, qs, P, tk, fd, sm⟩ := x
  obtain ⟨wky, cpy, bdy, wsy, qsy, Py, tky, fdy, smy⟩ := y
  obtain ⟨A, n, c, B, m, d, F, q, e, G, r, h⟩ := a
  obtain ⟨Ay, ny, cy, By, my, dy, Fy, qy, ey, Gy, ry, hy⟩ := b
  have HX := Lib.hid hx
  have HY := Lib.hid hy
  clear hx hy
  dsimp only [cfc]
  obtain ⟨kb0, kb1, hb0⟩ := lies2 w #[.int .i64 wk, .int .i64 cp, .int .i64 bd, .slice A n c, .slice B m d, .slice F q e, .int .i64 tk, .int .i64 fd, .slice G r h] #[.int .i64 wky, .int .i64 cpy, .int .i64 bdy, .slice Ay ny cy, .slice By my dy, .slice Fy qy ey, .int .i64 tky, .int .i64 fdy, .slice Gy ry hy] 25 25
  obtain ⟨V, hV⟩ : ∃ V, (w.alloc (.cells #[.int .i64 wk, .int .i64 cp, .int .i64 bd, .slice A n c, .slice B m d, .slice F q e, .int .i64 tk, .int .i64 fd, .slice G r h] 25)).alloc (.cells #[.int .i64 wky, .int .i64 cpy, .int .i64 bdy, .slice Ay ny cy, .slice By my dy, .slice Fy qy ey, .int .i64 tky, .int .i64 fdy, .slice Gy ry hy] 25) = V := ⟨_, rfl⟩
  rw [hV] at kb0 kb1 hb0
  have HV := Lib.hid hV
  have BB := Lib.hid hb0
  have KX := Lib.hid kb0
  have KY := Lib.hid kb1
  clear hV hb0 kb0 kb1
  by_cases h0 : wk = wky
  · by_cases h1 : cp = cpy
    · by_cases h2 : bd = bdy
      · cases h3 : sameB ws wsy
        · as_aux_lemma =>
            have t0 : (wk == wky) = true := by simpa using h0
            have t1 : (cp == cpy) = true := by simpa using h1
            have t2 : (bd == bdy) = true := by simpa using h2
            have HB3 : Hid (sameB ws wsy = false) := Lib.hid h3
            have HRES : Hid (sameCf ⟨wk, cp, bd, ws, qs, P, tk, fd, sm⟩ ⟨wky, cpy, bdy, wsy, qsy, Py, tky, fdy, smy⟩ = false) := Lib.hid (by unfold sameCf; dsimp only; simp [t0, t1, t2, h3])
            clear h0 h1 h2 h3
            go_enter Try.func13, Try.ntmps13
            go_upto_region 1 with fail
            rw [HV.out]
            clear HV
            obtain ⟨x0, x1, x2, x3, x4, x5, x6, x7, x8⟩ := KX.out.c9e
            have lX := KX.out.lt
            obtain ⟨y0, y1, y2, y3, y4, y5, y6, y7, y8⟩ := KY.out.c9e
            have lY := KY.out.lt
            go_wp2_with fail
            refine (sameIntsE_any A Ay n c ny cy ws wsy _ (HX.out.below BB.out).ws (HY.out.below BB.out).ws).mono ?_
            rw [HB3.out]
            rintro e3 U3 ⟨rfl, b3⟩
            clear x0 x1 x2 x3 x4 x5 x6 x7 x8 y0 y1 y2 y3 y4 y5 y6 y7 y8 lX lY
            replace BB := Lib.hid (below3 BB.out b3)
            replace KX := Lib.hid (KX.out.below b3 KX.out.lt)
            replace KY := Lib.hid (KY.out.below b3 KY.out.lt)
            clear b3
            obtain ⟨x0, x1, x2, x3, x4, x5, x6, x7, x8⟩ := KX.out.c9e
            have lX := KX.out.lt
            obtain ⟨y0, y1, y2, y3, y4, y5, y6, y7, y8⟩ := KY.out.c9e
            have lY := KY.out.lt
            go_wp2_with fail
            go_ret
            exact ⟨by rw [HRES.out]; rfl, BB.out⟩
        · cases h4 : sameB qs qsy
          · as_aux_lemma =>
              have t0 : (wk == wky) = true := by simpa using h0
              have t1 : (cp == cpy) = true := by simpa using h1
              have t2 : (bd == bdy) = true := by simpa using h2
              have HB3 : Hid (sameB ws wsy = true) := Lib.hid h3
              have HB4 : Hid (sameB qs qsy = false) := Lib.hid h4
              have HRES : Hid (sameCf ⟨wk, cp, bd, ws, qs, P, tk, fd, sm⟩ ⟨wky, cpy, bdy, wsy, qsy, Py, tky, fdy, smy⟩ = false) := Lib.hid (by unfold sameCf; dsimp only; simp [t0, t1, t2, h3, h4])
              clear h0 h1 h2 h3 h4
              go_enter Try.func13, Try.ntmps13
              go_upto_region 1 with fail
              rw [HV.out]
              clear HV
              obtain ⟨x0, x1, x2, x3, x4, x5, x6, x7, x8⟩ := KX.out.c9e
              have lX := KX.out.lt
              obtain ⟨y0, y1, y2, y3, y4, y5, y6, y7, y8⟩ := KY.out.c9e
              have lY := KY.out.lt
              go_wp2_with fail
              refine (sameIntsE_any A Ay n c ny cy ws wsy _ (HX.out.below BB.out).ws (HY.out.below BB.out).ws).mono ?_
              rw [HB3.out]
              rintro e3 U3 ⟨rfl, b3⟩
              clear x0 x1 x2 x3 x4 x5 x6 x7 x8 y0 y1 y2 y3 y4 y5 y6 y7 y8 lX lY
              replace BB := Lib.hid (below3 BB.out b3)
              replace KX := Lib.hid (KX.out.below b3 KX.out.lt)
              replace KY := Lib.hid (KY.out.below b3 KY.out.lt)
              clear b3
              obtain ⟨x0, x1, x2, x3, x4, x5, x6, x7, x8⟩ := KX.out.c9e
              have lX := KX.out.lt
              obtain ⟨y0, y1, y2, y3, y4, y5, y6, y7, y8⟩ := KY.out.c9e
              have lY := KY.out.lt
              go_wp2_with fail
              refine (sameIntsE_any B By m d my dy qs qsy _ (HX.out.below BB.out).qs (HY.out.below BB.out).qs).mono ?_
              rw [HB4.out]
              rintro e4 U4 ⟨rfl, b4⟩
              clear x0 x1 x2 x3 x4 x5 x6 x7 x8 y0 y1 y2 y3 y4 y5 y6 y7 y8 lX lY
              replace BB := Lib.hid (below3 BB.out b4)
              replace KX := Lib.hid (KX.out.below b4 KX.out.lt)
              replace KY := Lib.hid (KY.out.below b4 KY.out.lt)
              clear b4
              obtain ⟨x0, x1, x2, x3, x4, x5, x6, x7, x8⟩ := KX.out.c9e
              have lX := KX.out.lt
              obtain ⟨y0, y1, y2, y3, y4, y5, y6, y7, y8⟩ := KY.out.c9e
              have lY := KY.out.lt
              go_wp2_with fail
              go_ret
              exact ⟨by rw [HRES.out]; rfl, BB.out⟩
          · cases h5 : sameL P Py
            · as_aux_lemma =>
                have t0 : (wk == wky) = true := by simpa using h0
                have t1 : (cp == cpy) = true := by simpa using h1
                have t2 : (bd == bdy) = true := by simpa using h2
                have HB3 : Hid (sameB ws wsy = true) := Lib.hid h3
                have HB4 : Hid (sameB qs qsy = true) := Lib.hid h4
                have HB5 : Hid (sameL P Py = false) := Lib.hid h5
                have HRES : Hid (sameCf ⟨wk, cp, bd, ws, qs, P, tk, fd, sm⟩ ⟨wky, cpy, bdy, wsy, qsy, Py, tky, fdy, smy⟩ = false) := Lib.hid (by unfold sameCf; dsimp only; simp [t0, t1, t2, h3, h4, h5])
                clear h0 h1 h2 h3 h4 h5
                go_enter Try.func13, Try.ntmps13
                go_upto_region 1 with fail
                rw [HV.out]
                clear HV
                obtain ⟨x0, x1, x2, x3, x4, x5, x6, x7, x8⟩ := KX.out.c9e
                have lX := KX.out.lt
                obtain ⟨y0, y1, y2, y3, y4, y5, y6, y7, y8⟩ := KY.out.c9e
                have lY := KY.out.lt
                go_wp2_with fail
                refine (sameIntsE_any A Ay n c ny cy ws wsy _ (HX.out.below BB.out).ws (HY.out.below BB.out).ws).mono ?_
                rw [HB3.out]
                rintro e3 U3 ⟨rfl, b3⟩
                clear x0 x1 x2 x3 x4 x5 x6 x7 x8 y0 y1 y2 y3 y4 y5 y6 y7 y8 lX lY
                replace BB := Lib.hid (below3 BB.out b3)
                replace KX := Lib.hid (KX.out.below b3 KX.out.lt)
                replace KY := Lib.hid (KY.out.below b3 KY.out.lt)
                clear b3
                obtain ⟨x0, x1, x2, x3, x4, x5, x6, x7, x8⟩ := KX.out.c9e
                have lX := KX.out.lt
                obtain ⟨y0, y1, y2, y3, y4, y5, y6, y7, y8⟩ := KY.out.c9e
                have lY := KY.out.lt
                go_wp2_with fail
                refine (sameIntsE_any B By m d my dy qs qsy _ (HX.out.below BB.out).qs (HY.out.below BB.out).qs).mono ?_
                rw [HB4.out]
                rintro e4 U4 ⟨rfl, b4⟩
                clear x0 x1 x2 x3 x4 x5 x6 x7 x8 y0 y1 y2 y3 y4 y5 y6 y7 y8 lX lY
                replace BB := Lib.hid (below3 BB.out b4)
                replace KX := Lib.hid (KX.out.below b4 KX.out.lt)
                replace KY := Lib.hid (KY.out.below b4 KY.out.lt)
                clear b4
                obtain ⟨x0, x1, x2, x3, x4, x5, x6, x7, x8⟩ := KX.out.c9e
                have lX := KX.out.lt
                obtain ⟨y0, y1, y2, y3, y4, y5, y6, y7, y8⟩ := KY.out.c9e
                have lY := KY.out.lt
                go_wp2_with fail
                refine (rsame_any F Fy q e qy ey P Py _ (HX.out.below BB.out).P (HY.out.below BB.out).P).mono ?_
                rw [HB5.out]
                rintro e5 U5 ⟨rfl, b5⟩
                clear x0 x1 x2 x3 x4 x5 x6 x7 x8 y0 y1 y2 y3 y4 y5 y6 y7 y8 lX lY
                replace BB := Lib.hid (below3 BB.out b5)
                replace KX := Lib.hid (KX.out.below b5 KX.out.lt)
                replace KY := Lib.hid (KY.out.below b5 KY.out.lt)
                clear b5
                obtain ⟨x0, x1, x2, x3, x4, x5, x6, x7, x8⟩ := KX.out.c9e
                have lX := KX.out.lt
                obtain ⟨y0, y1, y2, y3, y4, y5, y6, y7, y8⟩ := KY.out.c9e
                have lY := KY.out.lt
                go_wp2_with fail
                go_ret
                exact ⟨by rw [HRES.out]; rfl, BB.out⟩
            · by_cases h6 : tk = tky
              · by_cases h7 : fd = fdy
                · cases h8 : sameB sm smy
                  · as_aux_lemma =>
                      have t0 : (wk == wky) = true := by simpa using h0
                      have t1 : (cp == cpy) = true := by simpa using h1
                      have t2 : (bd == bdy) = true := by simpa using h2
                      have HB3 : Hid (sameB ws wsy = true) := Lib.hid h3
                      have HB4 : Hid (sameB qs qsy = true) := Lib.hid h4
                      have HB5 : Hid (sameL P Py = true) := Lib.hid h5
                      have t6 : (tk == tky) = true := by simpa using h6
                      have t7 : (fd == fdy) = true := by simpa using h7
                      have HB8 : Hid (sameB sm smy = false) := Lib.hid h8
                      have HRES : Hid (sameCf ⟨wk, cp, bd, ws, qs, P, tk, fd, sm⟩ ⟨wky, cpy, bdy, wsy, qsy, Py, tky, fdy, smy⟩ = false) := Lib.hid (by unfold sameCf; dsimp only; simp [t0, t1, t2, h3, h4, h5, t6, t7, h8])
                      clear h0 h1 h2 h3 h4 h5 h6 h7 h8
                      go_enter Try.func13, Try.ntmps13
                      go_upto_region 1 with fail
                      rw [HV.out]
                      clear HV
                      obtain ⟨x0, x1, x2, x3, x4, x5, x6, x7, x8⟩ := KX.out.c9e
                      have lX := KX.out.lt
                      obtain ⟨y0, y1, y2, y3, y4, y5, y6, y7, y8⟩ := KY.out.c9e
                      have lY := KY.out.lt
                      go_wp2_with fail
                      refine (sameIntsE_any A Ay n c ny cy ws wsy _ (HX.out.below BB.out).ws (HY.out.below BB.out).ws).mono ?_
                      rw [HB3.out]
                      rintro e3 U3 ⟨rfl, b3⟩
                      clear x0 x1 x2 x3 x4 x5 x6 x7 x8 y0 y1 y2 y3 y4 y5 y6 y7 y8 lX lY
                      replace BB := Lib.hid (below3 BB.out b3)
                      replace KX := Lib.hid (KX.out.below b3 KX.out.lt)
                      replace KY := Lib.hid (KY.out.below b3 KY.out.lt)
                      clear b3
                      obtain ⟨x0, x1, x2, x3, x4, x5, x6, x7, x8⟩ := KX.out.c9e
                      have lX := KX.out.lt
                      obtain ⟨y0, y1, y2, y3, y4, y5, y6, y7, y8⟩ := KY.out.c9e
                      have lY := KY.out.lt
                      go_wp2_with fail
                      refine (sameIntsE_any B By m d my dy qs qsy _ (HX.out.below BB.out).qs (HY.out.below BB.out).qs).mono ?_
                      rw [HB4.out]
                      rintro e4 U4 ⟨rfl, b4⟩
                      clear x0 x1 x2 x3 x4 x5 x6 x7 x8 y0 y1 y2 y3 y4 y5 y6 y7 y8 lX lY
                      replace BB := Lib.hid (below3 BB.out b4)
                      replace KX := Lib.hid (KX.out.below b4 KX.out.lt)
                      replace KY := Lib.hid (KY.out.below b4 KY.out.lt)
                      clear b4
                      obtain ⟨x0, x1, x2, x3, x4, x5, x6, x7, x8⟩ := KX.out.c9e
                      have lX := KX.out.lt
                      obtain ⟨y0, y1, y2, y3, y4, y5, y6, y7, y8⟩ := KY.out.c9e
                      have lY := KY.out.lt
                      go_wp2_with fail
                      refine (rsame_any F Fy q e qy ey P Py _ (HX.out.below BB.out).P (HY.out.below BB.out).P).mono ?_
                      rw [HB5.out]
                      rintro e5 U5 ⟨rfl, b5⟩
                      clear x0 x1 x2 x3 x4 x5 x6 x7 x8 y0 y1 y2 y3 y4 y5 y6 y7 y8 lX lY
                      replace BB := Lib.hid (below3 BB.out b5)
                      replace KX := Lib.hid (KX.out.below b5 KX.out.lt)
                      replace KY := Lib.hid (KY.out.below b5 KY.out.lt)
                      clear b5
                      obtain ⟨x0, x1, x2, x3, x4, x5, x6, x7, x8⟩ := KX.out.c9e
                      have lX := KX.out.lt
                      obtain ⟨y0, y1, y2, y3, y4, y5, y6, y7, y8⟩ := KY.out.c9e
                      have lY := KY.out.lt
                      go_wp2_with fail
                      refine (sameIntsE_any G Gy r h ry hy sm smy _ (HX.out.below BB.out).sm (HY.out.below BB.out).sm).mono ?_
                      rw [HB8.out]
                      rintro e8 U8 ⟨rfl, b8⟩
                      clear x0 x1 x2 x3 x4 x5 x6 x7 x8 y0 y1 y2 y3 y4 y5 y6 y7 y8 lX lY
                      replace BB := Lib.hid (below3 BB.out b8)
                      replace KX := Lib.hid (KX.out.below b8 KX.out.lt)
                      replace KY := Lib.hid (KY.out.below b8 KY.out.lt)
                      clear b8
                      obtain ⟨x0, x1, x2, x3, x4, x5, x6, x7, x8⟩ := KX.out.c9e
                      have lX := KX.out.lt
                      obtain ⟨y0, y1, y2, y3, y4, y5, y6, y7, y8⟩ := KY.out.c9e
                      have lY := KY.out.lt
                      go_wp2_with fail
                      go_ret
                      exact ⟨by rw [HRES.out]; rfl, BB.out⟩
                  · as_aux_lemma =>
                      have t0 : (wk == wky) = true := by simpa using h0
                      have t1 : (cp == cpy) = true := by simpa using h1
                      have t2 : (bd == bdy) = true := by simpa using h2
                      have HB3 : Hid (sameB ws wsy = true) := Lib.hid h3
                      have HB4 : Hid (sameB qs qsy = true) := Lib.hid h4
                      have HB5 : Hid (sameL P Py = true) := Lib.hid h5
                      have t6 : (tk == tky) = true := by simpa using h6
                      have t7 : (fd == fdy) = true := by simpa using h7
                      have HB8 : Hid (sameB sm smy = true) := Lib.hid h8
                      have HRES : Hid (sameCf ⟨wk, cp, bd, ws, qs, P, tk, fd, sm⟩ ⟨wky, cpy, bdy, wsy, qsy, Py, tky, fdy, smy⟩ = true) := Lib.hid (by unfold sameCf; dsimp only; simp [t0, t1, t2, h3, h4, h5, t6, t7, h8])
                      clear h0 h1 h2 h3 h4 h5 h6 h7 h8
                      go_enter Try.func13, Try.ntmps13
                      go_upto_region 1 with fail
                      rw [HV.out]
                      clear HV
                      obtain ⟨x0, x1, x2, x3, x4, x5, x6, x7, x8⟩ := KX.out.c9e
                      have lX := KX.out.lt
                      obtain ⟨y0, y1, y2, y3, y4, y5, y6, y7, y8⟩ := KY.out.c9e
                      have lY := KY.out.lt
                      go_wp2_with fail
                      refine (sameIntsE_any A Ay n c ny cy ws wsy _ (HX.out.below BB.out).ws (HY.out.below BB.out).ws).mono ?_
                      rw [HB3.out]
                      rintro e3 U3 ⟨rfl, b3⟩
                      clear x0 x1 x2 x3 x4 x5 x6 x7 x8 y0 y1 y2 y3 y4 y5 y6 y7 y8 lX lY
                      replace BB := Lib.hid (below3 BB.out b3)
                      replace KX := Lib.hid (KX.out.below b3 KX.out.lt)
                      replace KY := Lib.hid (KY.out.below b3 KY.out.lt)
                      clear b3
                      obtain ⟨x0, x1, x2, x3, x4, x5, x6, x7, x8⟩ := KX.out.c9e
                      have lX := KX.out.lt
                      obtain ⟨y0, y1, y2, y3, y4, y5, y6, y7, y8⟩ := KY.out.c9e
                      have lY := KY.out.lt
                      go_wp2_with fail
                      refine (sameIntsE_any B By m d my dy qs qsy _ (HX.out.below BB.out).qs (HY.out.below BB.out).qs).mono ?_
                      rw [HB4.out]
                      rintro e4 U4 ⟨rfl, b4⟩
                      clear x0 x1 x2 x3 x4 x5 x6 x7 x8 y0 y1 y2 y3 y4 y5 y6 y7 y8 lX lY
                      replace BB := Lib.hid (below3 BB.out b4)
                      replace KX := Lib.hid (KX.out.below b4 KX.out.lt)
                      replace KY := Lib.hid (KY.out.below b4 KY.out.lt)
                      clear b4
                      obtain ⟨x0, x1, x2, x3, x4, x5, x6, x7, x8⟩ := KX.out.c9e
                      have lX := KX.out.lt
                      obtain ⟨y0, y1, y2, y3, y4, y5, y6, y7, y8⟩ := KY.out.c9e
                      have lY := KY.out.lt
                      go_wp2_with fail
                      refine (rsame_any F Fy q e qy ey P Py _ (HX.out.below BB.out).P (HY.out.below BB.out).P).mono ?_
                      rw [HB5.out]
                      rintro e5 U5 ⟨rfl, b5⟩
                      clear x0 x1 x2 x3 x4 x5 x6 x7 x8 y0 y1 y2 y3 y4 y5 y6 y7 y8 lX lY
                      replace BB := Lib.hid (below3 BB.out b5)
                      replace KX := Lib.hid (KX.out.below b5 KX.out.lt)
                      replace KY := Lib.hid (KY.out.below b5 KY.out.lt)
                      clear b5
                      obtain ⟨x0, x1, x2, x3, x4, x5, x6, x7, x8⟩ := KX.out.c9e
                      have lX := KX.out.lt
                      obtain ⟨y0, y1, y2, y3, y4, y5, y6, y7, y8⟩ := KY.out.c9e
                      have lY := KY.out.lt
                      go_wp2_with fail
                      refine (sameIntsE_any G Gy r h ry hy sm smy _ (HX.out.below BB.out).sm (HY.out.below BB.out).sm).mono ?_
                      rw [HB8.out]
                      rintro e8 U8 ⟨rfl, b8⟩
                      clear x0 x1 x2 x3 x4 x5 x6 x7 x8 y0 y1 y2 y3 y4 y5 y6 y7 y8 lX lY
                      replace BB := Lib.hid (below3 BB.out b8)
                      replace KX := Lib.hid (KX.out.below b8 KX.out.lt)
                      replace KY := Lib.hid (KY.out.below b8 KY.out.lt)
                      clear b8
                      obtain ⟨x0, x1, x2, x3, x4, x5, x6, x7, x8⟩ := KX.out.c9e
                      have lX := KX.out.lt
                      obtain ⟨y0, y1, y2, y3, y4, y5, y6, y7, y8⟩ := KY.out.c9e
                      have lY := KY.out.lt
                      go_wp2_with fail
                      go_ret
                      exact ⟨by rw [HRES.out]; rfl, BB.out⟩
                · as_aux_lemma =>
                    have t0 : (wk == wky) = true := by simpa using h0
                    have t1 : (cp == cpy) = true := by simpa using h1
                    have t2 : (bd == bdy) = true := by simpa using h2
                    have HB3 : Hid (sameB ws wsy = true) := Lib.hid h3
                    have HB4 : Hid (sameB qs qsy = true) := Lib.hid h4
                    have HB5 : Hid (sameL P Py = true) := Lib.hid h5
                    have t6 : (tk == tky) = true := by simpa using h6
                    have t7 : (fd == fdy) = false := by simpa using h7
                    have HRES : Hid (sameCf ⟨wk, cp, bd, ws, qs, P, tk, fd, sm⟩ ⟨wky, cpy, bdy, wsy, qsy, Py, tky, fdy, smy⟩ = false) := Lib.hid (by unfold sameCf; dsimp only; simp [t0, t1, t2, h3, h4, h5, t6, t7])
                    clear h0 h1 h2 h3 h4 h5 h6 h7
                    go_enter Try.func13, Try.ntmps13
                    go_upto_region 1 with fail
                    rw [HV.out]
                    clear HV
                    obtain ⟨x0, x1, x2, x3, x4, x5, x6, x7, x8⟩ := KX.out.c9e
                    have lX := KX.out.lt
                    obtain ⟨y0, y1, y2, y3, y4, y5, y6, y7, y8⟩ := KY.out.c9e
                    have lY := KY.out.lt
                    go_wp2_with fail
                    refine (sameIntsE_any A Ay n c ny cy ws wsy _ (HX.out.below BB.out).ws (HY.out.below BB.out).ws).mono ?_
                    rw [HB3.out]
                    rintro e3 U3 ⟨rfl, b3⟩
                    clear x0 x1 x2 x3 x4 x5 x6 x7 x8 y0 y1 y2 y3 y4 y5 y6 y7 y8 lX lY
                    replace BB := Lib.hid (below3 BB.out b3)
                    replace KX := Lib.hid (KX.out.below b3 KX.out.lt)
                    replace KY := Lib.hid (KY.out.below b3 KY.out.lt)
                    clear b3
                    obtain ⟨x0, x1, x2, x3, x4, x5, x6, x7, x8⟩ := KX.out.c9e
                    have lX := KX.out.lt
                    obtain ⟨y0, y1, y2, y3, y4, y5, y6, y7, y8⟩ := KY.out.c9e
                    have lY := KY.out.lt
                    go_wp2_with fail
                    refine (sameIntsE_any B By m d my dy qs qsy _ (HX.out.below BB.out).qs (HY.out.below BB.out).qs).mono ?_
                    rw [HB4.out]
                    rintro e4 U4 ⟨rfl, b4⟩
                    clear x0 x1 x2 x3 x4 x5 x6 x7 x8 y0 y1 y2 y3 y4 y5 y6 y7 y8 lX lY
                    replace BB := Lib.hid (below3 BB.out b4)
                    replace KX := Lib.hid (KX.out.below b4 KX.out.lt)
                    replace KY := Lib.hid (KY.out.below b4 KY.out.lt)
                    clear b4
                    obtain ⟨x0, x1, x2, x3, x4, x5, x6, x7, x8⟩ := KX.out.c9e
                    have lX := KX.out.lt
                    obtain ⟨y0, y1, y2, y3, y4, y5, y6, y7, y8⟩ := KY.out.c9e
                    have lY := KY.out.lt
                    go_wp2_with fail
                    refine (rsame_any F Fy q e qy ey P Py _ (HX.out.below BB.out).P (HY.out.below BB.out).P).mono ?_
                    rw [HB5.out]
                    rintro e5 U5 ⟨rfl, b5⟩
                    clear x0 x1 x2 x3 x4 x5 x6 x7 x8 y0 y1 y2 y3 y4 y5 y6 y7 y8 lX lY
                    replace BB := Lib.hid (below3 BB.out b5)
                    replace KX := Lib.hid (KX.out.below b5 KX.out.lt)
                    replace KY := Lib.hid (KY.out.below b5 KY.out.lt)
                    clear b5
                    obtain ⟨x0, x1, x2, x3, x4, x5, x6, x7, x8⟩ := KX.out.c9e
                    have lX := KX.out.lt
                    obtain ⟨y0, y1, y2, y3, y4, y5, y6, y7, y8⟩ := KY.out.c9e
                    have lY := KY.out.lt
                    go_wp2_with fail
                    go_ret
                    exact ⟨by rw [HRES.out]; rfl, BB.out⟩
              · as_aux_lemma =>
                  have t0 : (wk == wky) = true := by simpa using h0
                  have t1 : (cp == cpy) = true := by simpa using h1
                  have t2 : (bd == bdy) = true := by simpa using h2
                  have HB3 : Hid (sameB ws wsy = true) := Lib.hid h3
                  have HB4 : Hid (sameB qs qsy = true) := Lib.hid h4
                  have HB5 : Hid (sameL P Py = true) := Lib.hid h5
                  have t6 : (tk == tky) = false := by simpa using h6
                  have HRES : Hid (sameCf ⟨wk, cp, bd, ws, qs, P, tk, fd, sm⟩ ⟨wky, cpy, bdy, wsy, qsy, Py, tky, fdy, smy⟩ = false) := Lib.hid (by unfold sameCf; dsimp only; simp [t0, t1, t2, h3, h4, h5, t6])
                  clear h0 h1 h2 h3 h4 h5 h6
                  go_enter Try.func13, Try.ntmps13
                  go_upto_region 1 with fail
                  rw [HV.out]
                  clear HV
                  obtain ⟨x0, x1, x2, x3, x4, x5, x6, x7, x8⟩ := KX.out.c9e
                  have lX := KX.out.lt
                  obtain ⟨y0, y1, y2, y3, y4, y5, y6, y7, y8⟩ := KY.out.c9e
                  have lY := KY.out.lt
                  go_wp2_with fail
                  refine (sameIntsE_any A Ay n c ny cy ws wsy _ (HX.out.below BB.out).ws (HY.out.below BB.out).ws).mono ?_
                  rw [HB3.out]
                  rintro e3 U3 ⟨rfl, b3⟩
                  clear x0 x1 x2 x3 x4 x5 x6 x7 x8 y0 y1 y2 y3 y4 y5 y6 y7 y8 lX lY
                  replace BB := Lib.hid (below3 BB.out b3)
                  replace KX := Lib.hid (KX.out.below b3 KX.out.lt)
                  replace KY := Lib.hid (KY.out.below b3 KY.out.lt)
                  clear b3
                  obtain ⟨x0, x1, x2, x3, x4, x5, x6, x7, x8⟩ := KX.out.c9e
                  have lX := KX.out.lt
                  obtain ⟨y0, y1, y2, y3, y4, y5, y6, y7, y8⟩ := KY.out.c9e
                  have lY := KY.out.lt
                  go_wp2_with fail
                  refine (sameIntsE_any B By m d my dy qs qsy _ (HX.out.below BB.out).qs (HY.out.below BB.out).qs).mono ?_
                  rw [HB4.out]
                  rintro e4 U4 ⟨rfl, b4⟩
                  clear x0 x1 x2 x3 x4 x5 x6 x7 x8 y0 y1 y2 y3 y4 y5 y6 y7 y8 lX lY
                  replace BB := Lib.hid (below3 BB.out b4)
                  replace KX := Lib.hid (KX.out.below b4 KX.out.lt)
                  replace KY := Lib.hid (KY.out.below b4 KY.out.lt)
                  clear b4
                  obtain ⟨x0, x1, x2, x3, x4, x5, x6, x7, x8⟩ := KX.out.c9e
                  have lX := KX.out.lt
                  obtain ⟨y0, y1, y2, y3, y4, y5, y6, y7, y8⟩ := KY.out.c9e
                  have lY := KY.out.lt
                  go_wp2_with fail
                  refine (rsame_any F Fy q e qy ey P Py _ (HX.out.below BB.out).P (HY.out.below BB.out).P).mono ?_
                  rw [HB5.out]
                  rintro e5 U5 ⟨rfl, b5⟩
                  clear x0 x1 x2 x3 x4 x5 x6 x7 x8 y0 y1 y2 y3 y4 y5 y6 y7 y8 lX lY
                  replace BB := Lib.hid (below3 BB.out b5)
                  replace KX := Lib.hid (KX.out.below b5 KX.out.lt)
                  replace KY := Lib.hid (KY.out.below b5 KY.out.lt)
                  clear b5
                  obtain ⟨x0, x1, x2, x3, x4, x5, x6, x7, x8⟩ := KX.out.c9e
                  have lX := KX.out.lt
                  obtain ⟨y0, y1, y2, y3, y4, y5, y6, y7, y8⟩ := KY.out.c9e
                  have lY := KY.out.lt
                  go_wp2_with fail
                  go_ret
                  exact ⟨by rw [HRES.out]; rfl, BB.out⟩
      · as_aux_lemma =>
          have t0 : (wk == wky) = true := by simpa using h0
          have t1 : (cp == cpy) = true := by simpa using h1
          have t2 : (bd == bdy) = false := by simpa using h2
          have HRES : Hid (sameCf ⟨wk, cp, bd, ws, qs, P, tk, fd, sm⟩ ⟨wky, cpy, bdy, wsy, qsy, Py, tky, fdy, smy⟩ = false) := Lib.hid (by unfold sameCf; dsimp only; simp [t0, t1, t2])
          clear h0 h1 h2
          go_enter Try.func13, Try.ntmps13
          go_upto_region 1 with fail
          rw [HV.out]
          clear HV
          obtain ⟨x0, x1, x2, x3, x4, x5, x6, x7, x8⟩ := KX.out.c9e
          have lX := KX.out.lt
          obtain ⟨y0, y1, y2, y3, y4, y5, y6, y7, y8⟩ := KY.out.c9e
          have lY := KY.out.lt
          go_wp2_with fail
          go_ret
          exact ⟨by rw [HRES.out]; rfl, BB.out⟩
    · as_aux_lemma =>
        have t0 : (wk == wky) = true := by simpa using h0
        have t1 : (cp == cpy) = false := by simpa using h1
        have HRES : Hid (sameCf ⟨wk, cp, bd, ws, qs, P, tk, fd, sm⟩ ⟨wky, cpy, bdy, wsy, qsy, Py, tky, fdy, smy⟩ = false) := Lib.hid (by unfold sameCf; dsimp only; simp [t0, t1])
        clear h0 h1
        go_enter Try.func13, Try.ntmps13
        go_upto_region 1 with fail
        rw [HV.out]
        clear HV
        obtain ⟨x0, x1, x2, x3, x4, x5, x6, x7, x8⟩ := KX.out.c9e
        have lX := KX.out.lt
        obtain ⟨y0, y1, y2, y3, y4, y5, y6, y7, y8⟩ := KY.out.c9e
        have lY := KY.out.lt
        go_wp2_with fail
        go_ret
        exact ⟨by rw [HRES.out]; rfl, BB.out⟩
  · as_aux_lemma =>
      have t0 : (wk == wky) = false := by simpa using h0
      have HRES : Hid (sameCf ⟨wk, cp, bd, ws, qs, P, tk, fd, sm⟩ ⟨wky, cpy, bdy, wsy, qsy, Py, tky, fdy, smy⟩ = false) := Lib.hid (by unfold sameCf; dsimp only; simp [t0])
      clear h0
      go_enter Try.func13, Try.ntmps13
      go_upto_region 1 with fail
      rw [HV.out]
      clear HV
      obtain ⟨x0, x1, x2, x3, x4, x5, x6, x7, x8⟩ := KX.out.c9e
      have lX := KX.out.lt
      obtain ⟨y0, y1, y2, y3, y4, y5, y6, y7, y8⟩ := KY.out.c9e
      have lY := KY.out.lt
      go_wp2_with fail
      go_ret
      exact ⟨by rw [HRES.out]; rfl, BB.out⟩

end Go.Proofs.Ytpfnoohcilefhaa

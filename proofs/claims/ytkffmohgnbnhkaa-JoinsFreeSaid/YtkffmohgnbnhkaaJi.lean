/-
  Layer 11, the program: round: whether some way goes round.
-/
import Derived.Test.YtkffmohgnbnhkaaJh
namespace Go.Proofs.Ytkffmohgnbnhkaa
open Go.RowKit Go.Maps

/-- What round knows between two of those who wait: those that came end, and all who are passed. -/
structure RoI (l : List Tm) (left : Lit → Bool) (p : Int → Int) : Prop where
  key : ∀ x, left (.int .i64 x) = true → 0 ≤ onL l x
  seen : ∀ x, 0 ≤ onL l x → left (.int .i64 x) = true ∨ Ends l x
  pas : ∀ y, 0 ≤ p y → Ends l y ∧ left (.int .i64 (p y)) = false
theorem RoI.bef {l : List Tm} {left : Lit → Bool} {p : Int → Int} (h : RoI l left p) {x : Int} (hx : left (.int .i64 x) = true) : Bef l p x :=
  ⟨fun y hy => (h.pas y hy).1, fun y hy e => by have := (h.pas y hy).2; rw [e, hx] at this; cases this⟩
theorem RoI.step {l : List Tm} {left : Lit → Bool} {p q : Int → Int} (h : RoI l left p) {x : Int} (he : Ends l x) (hq : ∀ y, 0 ≤ q y → Ends l y ∧ (q y = x ∨ q y = p y)) :
    RoI l (fun z => left z && !z.sameKey (.int .i64 x)) q := by
  refine ⟨fun y hy => ?_, fun y hy => ?_, fun y hy => ?_⟩
  · simp only [Bool.and_eq_true] at hy
    exact h.key y hy.1
  · by_cases e : y = x
    · exact .inr (e ▸ he)
    · rcases h.seen y hy with h1 | h1
      · left
        rw [Bool.and_eq_true]
        refine ⟨h1, ?_⟩
        simp [Lit.sameKey]
        exact e
      · exact .inr h1
  · obtain ⟨h1, h2⟩ := hq y hy
    refine ⟨h1, ?_⟩
    rcases h2 with h2 | h2
    · rw [h2]; simp [Lit.sameKey]
    · rw [h2] at hy ⊢
      rw [(h.pas y hy).2]; rfl
theorem RoI.done {l : List Tm} {left : Lit → Bool} {p : Int → Int} (h : RoI l left p) (hl : ∀ z, left z = false) (x : Int) : Ends l x := by
  by_cases hx : 0 ≤ onL l x
  · rcases h.seen x hx with h1 | h1
    · rw [hl] at h1; cases h1
    · exact h1
  · exact ⟨[], .stop (by omega)⟩

theorem RdS.any {C g1 g2 b n bp : Nat} {w w' : World} {l : List Tm} (h : RdS C g1 g2 b n bp w l) {row : Option Nat} (hg : w.grownBy w' row) (hr : ∀ k, row = some k → k ≠ b ∧ k ≠ g1 ∧ k ≠ g2) : RdS C g1 g2 b n bp w' l :=
  ⟨h.lowb, h.hg1, h.hg2, h.hbp, h.map.grown hg (fun e => (hr _ e.symm).1 rfl), h.box.grown hg (fun e => (hr _ e.symm).2.1 rfl), h.pas.grown hg (fun e => (hr _ e.symm).2.2 rfl)⟩

set_option maxRecDepth 100000 in
set_option maxHeartbeats 4000000 in
theorem round_any (b n : Nat) (l : List Tm) (w : World) (hz : ZMap w b n (onL l)) (hl : l.length ≤ 300) (hnn : nonneg l) :
    Calls Try.prog 35 #[.map (some b)] w (fun e w' => ∃ r, e = .returned (.bool r) ∧ Below w.heap.size w w' ∧ ((r = true ∧ ∃ y, ¬ Ends l y) ∨ (r = false ∧ ∀ y, Ends l y))) := by
  have HNN := Lib.hid hnn
  have b0 := (Below.refl w.heap.size w).alloc (Nat.le_refl _) (.cells #[.map (some b)] 46)
  have k0 := Bk.new w 46 #[.map (some b)]
  have z0 := hz.below b0
  obtain ⟨kk, hlen⟩ := z0.len (t := 46) Try.underlying46
  have hmk := run_makeMapP kk (w.alloc (.cells #[.map (some b)] 46))
  rw [size_alloc] at hmk
  have q0 := k0.one
  have HLB := Lib.hid hz.lt
  clear hz hnn
  go_enter Try.func35, Try.ntmps35
  go_upto_region 3 with fail
  have b1 := (b0.alloc b0.size (.map #[] 0)).alloc (by simp; omega) (.cells #[.map (some (w.heap.size + 1))] 45)
  have bb : Below (w.heap.size + 1) (w.alloc (.cells #[.map (some b)] 46)) (((w.alloc (.cells #[.map (some b)] 46)).alloc (.map #[] 0)).alloc (.cells #[.map (some (w.heap.size + 1))] 45)) := ((Below.refl _ _).alloc (by simp) _).alloc (by simp) _
  have k1 := k0.below bb (Nat.lt_succ_self _)
  have z1 := z0.block_ (bb.block b (by have := HLB.out; omega))
  have zp := ZMap.made (w.alloc (.cells #[.map (some b)] 46))
  have k2 := Bk.new ((w.alloc (.cells #[.map (some b)] 46)).alloc (.map #[] 0)) 45 #[.map (some (w.heap.size + 1))]
  have zp1 := zp.below ((Below.refl _ _).alloc (Nat.le_refl _) (.cells #[.map (some (w.heap.size + 1))] 45))
  rw [size_alloc, size_alloc] at k2
  rw [size_alloc] at zp1
  have hsv : (((w.alloc (.cells #[.map (some b)] 46)).alloc (.map #[] 0)).alloc (.cells #[.map (some (w.heap.size + 1))] 45)).heap.size = w.heap.size + 3 := by simp
  generalize ((w.alloc (.cells #[.map (some b)] 46)).alloc (.map #[] 0)).alloc (.cells #[.map (some (w.heap.size + 1))] 45) = V at b1 k1 z1 k2 zp1 hsv ⊢
  have HRD : Hid (RdS w.heap.size w.heap.size (w.heap.size + 1 + 1) b n (w.heap.size + 1) V l) := Lib.hid ⟨HLB.out, Nat.le_refl _, by omega, by omega, z1, k1, k2⟩
  have HZP := Lib.hid zp1
  have HB1 := Lib.hid b1
  have HSV := Lib.hid hsv
  obtain ⟨D, hD, hhas, hat0, hfit⟩ := z1
  have HHAS := Lib.hid hhas
  have q1 := k1.one
  obtain ⟨w0, hrun0, hrg0, hg0, hs0⟩ := hD.range Try.lawI64 (t := 46) Try.underlying46
  obtain ⟨rr, hrr⟩ : ∃ rr, V.heap.size = rr := ⟨_, rfl⟩
  rw [hrr] at hrun0 hrg0
  have HRR : Hid (rr = w.heap.size + 3) := Lib.hid (by rw [← hrr]; exact hsv)
  have R0 : Hid (RoI l (Maps.has D) (fun _ => -1)) := Lib.hid ⟨fun x hx => by rw [hhas] at hx; exact of_decide_eq_true hx, fun x hx => .inl (by rw [hhas]; exact decide_eq_true hx), fun y hy => absurd hy (show ¬ (0 : Int) ≤ -1 by decide)⟩
  have HRD0 := Lib.hid (HRD.out.any hg0 (fun k hk => by cases hk))
  have HZP0 := Lib.hid (HZP.out.grown hg0 (by simp))
  have HB0 := Lib.hid (HB1.out.grown hg0 HB1.out.size (fun k hk => by cases hk))
  clear b0 k0 z0 hlen hmk q0 b1 k1 k2 zp1 hsv bb zp hD hhas hat0 hfit hg0 hs0 hrr HRD HZP HB1 HSV
  go_wp2_with fail
  clear hrun0 q1
  go_loopw [5] (fun _ ws => ∃ (left : Lit → Bool) (cnt m : Nat) (p : Int → Int), ws.ranges Try.prog 2 (plainElem Try.prog 2) b rr n D left cnt ∧ Hid (RoI l left p) ∧ Hid (ZMap ws (w.heap.size + 1) m p ∧ m + freshN l p ≤ l.length) ∧ Hid (RdS w.heap.size w.heap.size (w.heap.size + 1 + 1) b n (w.heap.size + 1) ws l) ∧ Hid (Below w.heap.size w ws)) (fun _ ws => ws.rangeLeft b rr)
  case atStart => exact ⟨_, _, 0, _, hrg0, R0, Lib.hid ⟨HZP0.out, by rw [Nat.zero_add]; exact List.countP_le_length⟩, HRD0, HB0⟩
  case round =>
    rename World => wm
    clear hrg0 R0 HZP0 HRD0 HB0
    obtain ⟨left, cnt, m, p, hrg, RO, ZP, RD, BW⟩ := hrel
    have HLR : Hid (w.heap.size + 2 < wm.heap.size) := Lib.hid RD.out.pas.lt
    rcases hrg.next Try.lawI64 0 with ⟨-, hl0, hrunN⟩ | ⟨key, vv, kl, yy, w8, cnt1, hkey, hlx, hvv, hat, hrunN, hrg1, hlt, hg1, hs1, hen⟩
    · have HF := Lib.hid (RO.out.done hl0)
      clear hrg hl0
      go_wp2_with fail
      go_ret
      exact ⟨false, rfl, BW.out, .inr ⟨rfl, HF.out⟩⟩
    · obtain ⟨x, rfl, rfl, hwf⟩ := Go.Maps.keyOf_int_inv Try.underlying2 hkey
      obtain ⟨cc, rfl, rfl, -⟩ := plainElem_int_inv Try.underlying2 hvv
      have hm1 := hrg.left_eq
      have hm2 := hrg1.left_eq
      have HM : Hid (w8.rangeLeft b rr < wm.rangeLeft b rr) := Lib.hid (by rw [hm1, hm2]; exact hlt)
      have HLX := Lib.hid hlx
      have RD8 := Lib.hid (RD.out.any hg1 (fun k hk => by injection hk with hk; have := HRR.out; have := HLB.out; omega))
      have ZP8 : Hid (ZMap w8 (w.heap.size + 1) m p ∧ m + freshN l p ≤ l.length) := Lib.hid ⟨ZP.out.1.grown hg1 (by have := HRR.out; intro e; injection e with e; omega), ZP.out.2⟩
      have BW8 := Lib.hid (BW.out.grown hg1 BW.out.size (fun k hk => by injection hk with hk; have := HRR.out; omega))
      have HS8 : Hid (w.heap.size ≤ w8.heap.size) := Lib.hid BW8.out.size
      have fx := fit_of_wf hwf
      have x0 : 0 ≤ x := by
        obtain ⟨t, ht, e⟩ := List.mem_map.1 (onL_mem (RO.out.key x hlx))
        rw [← e]
        exact (HNN.out t ht).2
      have HC := Lib.hid (comes_any w.heap.size w.heap.size (w.heap.size + 1 + 1) b n (w.heap.size + 1) l.length m l p x w8 RD8.out HS8.out ZP8.out.1 ZP8.out.2 (by omega) fx x0 (RO.out.bef hlx))
      have HRG := Lib.hid hrg1
      clear hkey hvv hat hm1 hm2 hrg1 hlx hg1 hrg fx x0 hwf hlt hs1
      go_wp2_with fail
      refine HC.out.mono ?_
      rintro e w9 ⟨r, rfl, hg9, m9, q9, hz9, hN9, hr9⟩
      have BW9 := Lib.hid (BW8.out.grown hg9 BW8.out.size (fun k hk => by injection hk with hk; omega))
      have RD9 := Lib.hid (RD8.out.grown hg9 ⟨m, p, ZP8.out.1⟩)
      rcases hr9 with ⟨rfl, hy⟩ | ⟨rfl, he, hq⟩
      · have HY := Lib.hid hy
        clear hy hg9 hz9 hN9 HC
        go_wp2_with fail
        go_ret
        exact ⟨true, rfl, BW9.out, .inl ⟨rfl, HY.out⟩⟩
      · have RO9 := Lib.hid (RO.out.step he hq)
        have ZP9 : Hid (ZMap w9 (w.heap.size + 1) m9 q9 ∧ m9 + freshN l q9 ≤ l.length) := Lib.hid ⟨hz9, hN9⟩
        have hrg9 := HRG.out.kept hg9 (by have := HLB.out; intro e; injection e with e; omega) (by have := HRR.out; intro e; injection e with e; omega)
        have HRG9 := Lib.hid hrg9
        have HM9 : Hid (w9.rangeLeft b rr < wm.rangeLeft b rr) := Lib.hid (by rw [hrg9.left_eq, ← HRG.out.left_eq]; exact HM.out)
        clear he hq hg9 hz9 hN9 HC hrg9 HRG HM
        go_wp2_with fail
        go_roundw
        case rel => exact ⟨_, _, m9, q9, HRG9.out, RO9, ZP9, RD9, BW9⟩
        case measure => exact HM9.out

end Go.Proofs.Ytkffmohgnbnhkaa

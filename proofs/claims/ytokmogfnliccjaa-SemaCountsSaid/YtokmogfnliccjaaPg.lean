/-
  Layer 10, the program: a gate is filled with who waits; a semaphore's gate.
-/
import Derived.Test.YtokmogfnliccjaaPj
namespace Go.Proofs.Ytokmogfnliccjaa
open Go.RowKit

theorem run_makeMapN (n : Int) (w : World) : (Instr.makeMap 53 (some (.int .i64 n))).run Try.prog w = .ok (.map (some w.heap.size)) (w.alloc (.map #[] 0)) := by
  simp [Instr.makeMap, run_underlying Try.underlying53, go_sem]

/-- Who may wait. -/
def fillOk (l : List Int) : Prop := l.length ≤ 256 ∧ OkTo l l.length
noncomputable instance (l : List Int) : Decidable (fillOk l) := Classical.propDecidable _

theorem BW_size {W0 w w' : World} (h : Below W0.heap.size W0 w) (h' : Below W0.heap.size w w') : W0.heap.size ≤ w'.heap.size := Nat.le_trans h.size h'.size

/-- What fill answers. -/
def FillA (base g : Nat) (z : Int) (n : Nat) (l : List Int) (w : World) (e : Ending) (w' : World) : Prop :=
  (fillOk l ∧ e = .returned (.bool true) ∧ (∃ A c b, GS w' base g z A n c b n l) ∧ Below base w w') ∨ (¬ fillOk l ∧ e = .returned (.bool false) ∧ Below base w w')

set_option maxHeartbeats 4000000 in
theorem pfill_any (W0 : World) (g : Nat) (z : Int) (A0 : Option Addr) (n c0 : Nat) (l : List Int) (w : World) (hk : Bk w g 57 #[.int .i64 z, .slice none 0 0, .map none]) (hb : Below W0.heap.size W0 w) (hgb : W0.heap.size ≤ g) (hx : Ints W0 A0 n l) :
    Calls Try.prog 36 #[.pointer (some ⟨g, 1, none⟩), .slice A0 n c0] w (FillA W0.heap.size g z n l w) := by
  have LX := Lib.hid hx.1
  have hn8 := hx.2.1
  by_cases hn : 256 < n
  · have HNO : Hid (¬ fillOk l) := Lib.hid (fun q => by have := q.1; have := LX.out; omega)
    clear hx hk hb hgb
    go_enter Try.func36, Try.ntmps36
    go_wp2_with fail
    go_ret
    exact .inr ⟨HNO.out, rfl, Below.refl _ _⟩
  · have HX := Lib.hid hx
    have hmk := run_makeMapN (n : Int) w
    have bV := (Below.refl w.heap.size w).alloc (Nat.le_refl _) (.map #[] 0)
    have sV := FSet.made w
    have kV := hk.alloc (.map #[] 0)
    have HGL := Lib.hid hk.lt
    have HGB := Lib.hid hgb
    have HSB := Lib.hid hb
    obtain ⟨b, hbb⟩ : ∃ b, w.heap.size = b := ⟨_, rfl⟩
    obtain ⟨V, hV⟩ : ∃ V, w.alloc (.map #[] 0) = V := ⟨_, rfl⟩
    rw [hV] at hmk bV sV kV
    rw [hbb] at hmk sV HGL
    have q2 : V.cell? ⟨g, 2, none⟩ = some (.map none) := (kV.cell 2).trans rfl
    have f2 := kV.frozen 2
    have lq := kV.lt
    have k1 := kV.set_ 2 (.map (some b))
    have hgs := grown_set (w := V) (g := g) (i := 2) (.map (some b))
    have s1 := sV.grown hgs (by have := HGL.out; intro e; injection e with e; omega)
    have b1 : Below W0.heap.size w (V.setCell ⟨g, 2, none⟩ (.map (some b))) := (bV.mono hb.size).grown hgs (Nat.le_trans hb.size bV.size) (by intro k hk; injection hk with hk; omega)
    obtain ⟨W1, hW1⟩ : ∃ W1, V.setCell ⟨g, 2, none⟩ (.map (some b)) = W1 := ⟨_, rfl⟩
    rw [hW1] at k1 s1 b1
    have G0 : Hid (GS W1 W0.heap.size g z none 0 0 b 0 []) := Lib.hid ⟨k1, OwnI.nil_ _ _ _, rfl, s1.same (fun y => rfl), HGL.out, HGB.out⟩
    have B1 := Lib.hid b1
    have HW1 := Lib.hid hW1
    clear hx hk hb hgb bV sV kV hbb hV k1 hgs s1 b1 hW1
    go_enter Try.func36, Try.ntmps36
    go_upto_region 4 with fail
    rw [HW1.out]
    clear HW1 hmk q2 f2 lq
    go_wp2_with fail
    go_loopw [18] (fun t wr => ∃ k : Nat, k ≤ n ∧ t = .int .i64 k ∧ ∃ A c, Hid (GS wr W0.heap.size g z A k c b k (l.take k)) ∧ Hid (OkTo l k) ∧ Hid (Below W0.heap.size w wr)) (fun t _ => n - (intOf t).toNat)
    case atStart => exact ⟨0, Nat.zero_le _, rfl, none, 0, G0, Lib.hid (fun i hi => absurd hi (Nat.not_lt_zero _)), B1⟩
    case round =>
      clear G0 B1
      rename World => wr
      obtain ⟨k, hk, rfl, A, c, GK, OK, BW⟩ := hrel
      by_cases hkn : k < n
      · have hkl : k < l.length := by rw [LX.out]; exact hkn
        obtain ⟨bI, oI, rfl, hbI, cI⟩ := (HX.out.below (HSB.out.trans BW.out)).at_ hkn
        have fy := HX.out.fit hkn
        have htk := take_next hkl
        have hstep : 0 ≤ nth l k ∧ nth l k ∉ l.take k → OkTo l (k + 1) := fun q i hi => by
          by_cases e : i = k
          · subst e; exact q
          · exact OK.out i (by omega)
        have hbad : ¬ (0 ≤ nth l k ∧ nth l k ∉ l.take k) → ¬ fillOk l := fun q h => q (h.2 k hkl)
        obtain ⟨y, hy⟩ : ∃ y, nth l k = y := ⟨_, rfl⟩
        rw [hy] at cI fy htk hstep hbad
        have FY := Lib.hid fy
        have HTK := Lib.hid htk
        clear hy fy htk
        by_cases h0 : y < 0
        · have t0 : decide (y < 0) = true := decide_eq_true h0
          have HNO := Lib.hid (hbad (fun q => by omega))
          clear h0 hstep hbad OK
          go_wp2_with fail
          go_ret
          exact .inr ⟨HNO.out, rfl, BW.out⟩
        · have t0 : decide (y < 0) = false := decide_eq_false h0
          obtain ⟨ts, hts⟩ : ∃ ts, l.take k = ts := ⟨_, rfl⟩
          rw [hts] at GK HTK hstep hbad
          clear hts
          by_cases hm : y ∈ ts
          · have HM := Lib.hid (hasB_yes hm)
            have HNO := Lib.hid (hbad (fun q => q.2 hm))
            clear h0 hstep hbad hm OK
            go_wp2_with fail
            refine (phas_any g b k (hasB ts) y _ GK.out.c2 GK.out.lt GK.out.s FY.out).mono ?_
            rw [HM.out]
            rintro e w2 ⟨rfl, b2⟩
            have HB := Lib.hid (BW.out.trans (b2.mono (BW_size HSB.out BW.out)))
            clear b2 BW hbI cI
            go_wp2_with fail
            go_ret
            exact .inr ⟨HNO.out, rfl, HB.out⟩
          · have HM := Lib.hid (hasB_no hm)
            have OKN := Lib.hid (hstep ⟨by omega, hm⟩)
            clear h0 hstep hbad hm OK
            go_wp2_with fail
            refine (phas_any g b k (hasB ts) y _ GK.out.c2 GK.out.lt GK.out.s FY.out).mono ?_
            rw [HM.out]
            rintro e w2 ⟨rfl, b2⟩
            have GK2 := Lib.hid (GK.out.below b2)
            have HB := Lib.hid (BW.out.trans (b2.mono (BW_size HSB.out BW.out)))
            clear b2 BW hbI cI GK
            go_wp2_with fail
            refine (pjoin_any GK2.out y FY.out (by omega) (by omega)).mono ?_
            rintro e w3 ⟨rfl, ⟨A3, c3, gs⟩, b3⟩
            rw [← HTK.out] at gs
            have GK3 := Lib.hid gs
            have HB3 := Lib.hid (HB.out.trans b3)
            clear gs b3 HB GK2
            go_wp2_with fail
            go_roundw
            case rel => exact ⟨k + 1, by omega, by go_num, A3, c3, GK3, OKN, HB3⟩
            case measure => simp [intOf]; omega
      · obtain rfl : n = k := by omega
        have HOK := Lib.hid (show fillOk l from ⟨by rw [LX.out]; omega, by rw [LX.out]; exact OK.out⟩)
        have GF := GK.out
        rw [← LX.out, List.take_length, LX.out] at GF
        have GF := Lib.hid GF
        clear GK OK
        go_wp2_with fail
        go_ret
        exact .inl ⟨HOK.out, rfl, ⟨A, c, b, GF.out⟩, BW.out⟩

end Go.Proofs.Ytokmogfnliccjaa

/-
  The contract of 'holds' of layer 6's laws: chains that stand for the queues have just what they have.
-/
import Derived.Test.YtiheeehegjfmgaaUse
import Derived.Test.YtiheeehegjfmgaaCnt
import Derived.Test.YtiheeehegjfmgaaFMi
namespace Go.Proofs.Ytiheeehegjfmgaa
open Go.RowKit

/-- The nodes of the lists ahead of list i, and those of list i ahead of place p. -/
def GotZ (qs : List (List Int)) (i p : Nat) (z : Int) : Prop := (∃ j q, j < i ∧ q < (qth qs j).length ∧ nth (qth qs j) q = z) ∨ ∃ q, q < p ∧ q < (qth qs i).length ∧ nth (qth qs i) q = z
section
variable {next head tail : List Int} {qs : List (List Int)}
theorem gotz_none (qs : List (List Int)) (z : Int) : ¬ GotZ qs 0 0 z := by rintro (⟨j, q, h, _⟩ | ⟨q, h, _⟩) <;> omega
theorem gotz_no (r : Rep next head tail qs) {i p : Nat} (hi : i < qs.length) (hp : p < (qth qs i).length) : ¬ GotZ qs i p (nth (qth qs i) p) := by
  rintro (⟨j, q, h1, h2, h3⟩ | ⟨q, h1, h2, h3⟩)
  · have := (r.one j i q p (by omega) hi h2 hp h3).1
    omega
  · have := (r.one i i q p hi hi h2 hp h3).2
    omega
theorem gotz_more {i p : Nat} (hp : p < (qth qs i).length) (z : Int) : GotZ qs i (p + 1) z ↔ GotZ qs i p z ∨ z = nth (qth qs i) p := by
  constructor
  · rintro (h | ⟨q, h1, h2, h3⟩)
    · exact .inl (.inl h)
    · by_cases e : q = p
      · subst e; exact .inr h3.symm
      · exact .inl (.inr ⟨q, by omega, h2, h3⟩)
  · rintro ((h | ⟨q, h1, h2, h3⟩) | h)
    · exact .inl h
    · exact .inr ⟨q, by omega, h2, h3⟩
    · exact .inr ⟨p, by omega, hp, h.symm⟩
theorem gotz_next (i : Nat) (z : Int) : GotZ qs (i + 1) 0 z ↔ GotZ qs i (qth qs i).length z := by
  constructor
  · rintro (⟨j, q, h1, h2, h3⟩ | ⟨q, h1, _⟩)
    · by_cases e : j = i
      · subst e; exact .inr ⟨q, h2, h2, h3⟩
      · exact .inl ⟨j, q, by omega, h2, h3⟩
    · omega
  · rintro (⟨j, q, h1, h2, h3⟩ | ⟨q, h1, h2, h3⟩)
    · exact .inl ⟨j, q, by omega, h2, h3⟩
    · exact .inl ⟨i, q, by omega, h2, h3⟩
end

/-- What lies there in the loops of holds. -/
structure HoS (w wr : World) (cs : Array Value) (qs : List (List Int)) (i p : Nat) : Prop where
  box : Bk wr w.heap.size 24 cs
  below : Below w.heap.size w wr
  mp : ∃ f, FMap wr (w.heap.size + 1) (sumL qs i + p) f ∧ ∀ z, f z = true ↔ GotZ qs i p z
theorem HoS.call {w wr w' : World} {cs : Array Value} {qs : List (List Int)} {i p : Nat} (h : HoS w wr cs qs i p) (hb : Below wr.heap.size wr w') : HoS w w' cs qs i p := by
  obtain ⟨f, hf, hg⟩ := h.mp
  exact ⟨h.box.below hb h.box.lt, below3 h.below hb, f, hf.below hb, hg⟩
theorem HoS.next_ {w wr : World} {cs : Array Value} {qs : List (List Int)} {i : Nat} (h : HoS w wr cs qs i (qth qs i).length) : HoS w wr cs qs (i + 1) 0 := by
  obtain ⟨f, hf, hg⟩ := h.mp
  exact ⟨h.box, h.below, f, hf, fun z => (hg z).trans (gotz_next i z).symm⟩
theorem HoS.put {w wr : World} {cs : Array Value} {next head tail : List Int} {qs : List (List Int)} (r : Rep next head tail qs) {i p : Nat} (hi : i < qs.length) (hp : p < (qth qs i).length) (h : HoS w wr cs qs i p) {y : Int} (hy : nth (qth qs i) p = y) (hf : Fit y) :
    (Instr.lookup 67 (.map (some (w.heap.size + 1))) (.int .i64 y) false).run Try.prog wr = .ok (.bool false) wr ∧
    ∃ w', (Instr.mapUpdate 67 (.map (some (w.heap.size + 1))) (.int .i64 y) (.bool true)).run Try.prog wr = .ok () w' ∧ HoS w w' cs qs i (p + 1) := by
  subst hy
  obtain ⟨f, hm, hg⟩ := h.mp
  have hl := hm.lookup hf
  have hff : f (nth (qth qs i) p) = false := by
    cases e : f (nth (qth qs i) p) with
    | false => rfl
    | true => exact absurd ((hg _).1 e) (gotz_no r hi hp)
  rw [hff] at hl
  have hs := sumL_le r (i := i + 1) hi
  rw [sumL] at hs
  obtain ⟨w', hu, hm', hgr⟩ := hm.update hf true (by omega)
  refine ⟨hl, w', hu, h.box.grown hgr (by simp), h.below.grown hgr h.below.size (fun k hk => by injection hk with hk; omega), _, hm', fun z => ?_⟩
  rw [gotz_more hp, ← hg z, upd]
  split
  · rename_i e; simp [e]
  · rename_i e; simp [e]

set_option maxHeartbeats 2000000 in
theorem holds_yes (A B D H : Option Addr) (n a m b k d C base : Nat) (next head tail : List Int) (hs : List (Option Addr × Nat)) (qs : List (List Int)) (w : World) (hp : Chn w A n B m D k next head tail) (r : Rep next head tail qs) (hq : OwnQs 3 22 w base H C hs qs) :
    Calls Try.prog 31 #[.agg #[.slice A n a, .slice B m b, .slice D k d], .slice H qs.length C] w (RetB (.bool true) w) := by
  have hb1 := (Below.refl w.heap.size w).alloc (Nat.le_refl _) (.cells #[.slice A n a, .slice B m b, .slice D k d] 24)
  have k1 := (Bk.new w 24 #[.slice A n a, .slice B m b, .slice D k d]).alloc (.map #[] 0)
  have m1 := FMap.made (w.alloc (.cells #[.slice A n a, .slice B m b, .slice D k d] 24))
  rw [size_alloc] at m1
  have S0 : Hid (HoS w ((w.alloc (.cells #[.slice A n a, .slice B m b, .slice D k d] 24)).alloc (.map #[] 0)) #[.slice A n a, .slice B m b, .slice D k d] qs 0 0) :=
    Lib.hid ⟨k1, hb1.alloc (by simp) _, _, m1, fun z => ⟨fun h => (by cases h), fun h => absurd h (gotz_none _ _)⟩⟩
  have P := Lib.hid hp
  have Q := Lib.hid hq
  have R := Lib.hid r
  have hq256 := r.l2
  have hlen := hp.x.1
  clear hp hq r hb1 k1 m1
  have mk : ∀ w, (Instr.makeMap 67 none).run Try.prog w = .ok (.map (some w.heap.size)) (w.alloc (.map #[] 0)) := fun w => rfl
  go_enter Try.func31, Try.ntmps31
  go_wp2
  clear mk
  go_loopw [17] (fun t wr => ∃ i : Nat, i ≤ qs.length ∧ t = .int .i64 i ∧ Hid (HoS w wr #[.slice A n a, .slice B m b, .slice D k d] qs i 0)) (fun t _ => qs.length - (intOf t).toNat)
  case atStart => exact ⟨0, Nat.zero_le _, rfl, S0⟩
  case round =>
    rename World => wo
    obtain ⟨i, hi, rfl, HS⟩ := hrel
    by_cases hlt : i < qs.length
    · obtain ⟨gh, rfl, -, hgh⟩ := Q.out.form (by omega)
      have hb := HS.out.below
      have ch := (hb.cell (p := ⟨gh, i, none⟩) hgh).trans (Q.out.at_ hlt).1
      obtain ⟨zs, hzs⟩ : ∃ zs, qth qs i = zs := ⟨_, rfl⟩
      obtain ⟨A0, hA0⟩ : ∃ x, (qa hs i).1 = x := ⟨_, rfl⟩
      obtain ⟨c0, hc0⟩ : ∃ x, (qa hs i).2 = x := ⟨_, rfl⟩
      have I0 := (Q.out.own i hlt).ints
      rw [hA0, hzs] at I0
      rw [hA0, hc0, hzs] at ch
      have IQ := Lib.hid I0
      have HZ := Lib.hid hzs
      have P1 := Lib.hid (P.out.below hb)
      have h1024 : zs.length ≤ 1024 := hzs ▸ R.out.short hlt
      have a_c := HS.out.box.e0
      have b_c := HS.out.box.e1
      have c_c := HS.out.box.e2
      clear hgh hb I0 hzs hA0 hc0
      go_wp2_with fail
      refine (walk_ok A B D n a m b k d next head tail i qs R.out hlt _ P1.out).mono ?_
      rw [HZ.out]
      rintro e w2 ⟨A2, a2, rfl, ho, hb2⟩
      have I2 := Lib.hid ho.ints
      have S2 := Lib.hid (HS.out.call hb2)
      have IQ2 := Lib.hid (IQ.out.below S2.out.below)
      clear ho hb2 a_c b_c c_c ch P1 HS
      go_wp2_with fail
      refine (rsameInts_yes A2 A0 zs.length a2 c0 zs _ I2.out IQ2.out).mono ?_
      rintro e w3 ⟨rfl, hb3⟩
      have S3 := Lib.hid (S2.out.call hb3)
      clear hb3 I2 IQ2 S2
      go_wp2
      go_loopw [38] (fun t wr => ∃ j : Nat, j ≤ zs.length ∧ t = .int .i64 j ∧ Hid (HoS w wr #[.slice A n a, .slice B m b, .slice D k d] qs i j)) (fun t _ => zs.length - (intOf t).toNat)
      case atStart => exact ⟨0, Nat.zero_le _, rfl, S3⟩
      case round =>
        rename World => wi
        obtain ⟨j, hj, rfl, HJ⟩ := hrel
        by_cases hlt2 : j < zs.length
        · obtain ⟨bz, oz, rfl, hbz, hcz⟩ := (IQ.out.below HJ.out.below).2.2.2 (by omega)
          have cz := hcz j hlt2
          have hr := R.out.rng i j hlt (by rw [HZ.out]; exact hlt2)
          have hwh := R.out.where_at hlt (x := nth zs j) (by rw [HZ.out]; exact nth_mem_ hlt2)
          have hyj : nth (qth qs i) j = nth zs j := by rw [HZ.out]
          rw [HZ.out] at hr
          obtain ⟨y, hy⟩ : ∃ y, nth zs j = y := ⟨_, rfl⟩
          rw [hy] at cz hr hwh hyj
          have HYJ := Lib.hid hyj
          have HW := Lib.hid hwh
          have HIN : Hid (inBd y (n : Int) = true) := Lib.hid (by rw [← hlen]; simp [inBd]; exact hr)
          have HFY : Hid (Fit y) := Lib.hid (by have := R.out.few; unfold Fit; omega)
          have a_c := HJ.out.box.e0
          have b_c := HJ.out.box.e1
          have c_c := HJ.out.box.e2
          clear hbz hcz hr hwh hyj hy
          have PJ := Lib.hid (P.out.below HJ.out.below)
          go_wp2_with fail
          refine (whereF_ok A B D n a m b k d next head tail y qs R.out HIN.out _ PJ.out).mono ?_
          rw [HW.out]
          rintro e w5 ⟨rfl, hb5⟩
          obtain ⟨hl, w6, hu, S6⟩ := (HJ.out.call hb5).put R.out hlt (by rw [HZ.out]; exact hlt2) HYJ.out HFY.out
          have HI6 := Lib.hid S6
          clear hb5 a_c b_c c_c cz HJ PJ S6
          go_wp2
          go_roundw
          case rel => exact ⟨j + 1, by omega, by go_num, HI6⟩
          case measure => simp [intOf]; omega
        · have hje : j = zs.length := by omega
          subst hje
          have HS4 : Hid (HoS w wi #[.slice A n a, .slice B m b, .slice D k d] qs (i + 1) 0) := Lib.hid (HoS.next_ (by rw [HZ.out]; exact HJ.out))
          go_wp2
          go_roundw
          case rel => exact ⟨i + 1, by omega, by go_num, HS4⟩
          case measure => simp [intOf]; omega
    · have P1 := Lib.hid (P.out.below HS.out.below)
      have a_c := HS.out.box.e0
      have b_c := HS.out.box.e1
      have c_c := HS.out.box.e2
      go_wp2_with fail
      refine (check_yes A B D n a m b k d next head tail qs R.out _ P1.out).mono ?_
      rintro e w2 ⟨rfl, hb2⟩
      have B2 := Lib.hid (below3 HS.out.below hb2)
      clear hb2 a_c b_c c_c
      go_wp2
      go_ret
      exact ⟨rfl, B2.out⟩

end Go.Proofs.Ytiheeehegjfmgaa

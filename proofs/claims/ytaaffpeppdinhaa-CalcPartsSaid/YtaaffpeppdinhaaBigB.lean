/-
  The document's answer of layer 2, numbers of a sign and sixteen parts: the contracts of more, Int, told, Neg.
-/
import Derived.Test.YtaaffpeppdinhaaBigA
import Derived.RegionTactic
namespace Go.Proofs.Ytaaffpeppdinhaa
open Go.RowKit

/-- The cells of sixteen parts alone. -/
def PartC (c : Array Value) (L : List Int) : Prop := c = (L.map (Value.int .u64)).toArray ∧ L.length = 16

theorem PartC.part {c : Array Value} {L : List Int} (h : PartC c L) {j : Nat} (hj : j < 16) : c[j]? = some (.int .u64 (nth L j)) := by
  have hl := h.2
  rw [h.1]
  simp [nth, List.getD, show j < L.length by omega]

/-- Two blocks of sixteen parts, in a world that has come about since. -/
def Two (w U : World) (A B : Array Value) : Prop := Below w.heap.size w U ∧ Bk U w.heap.size 42 A ∧ Bk U (w.heap.size + 1) 42 B

theorem Two.drew {w U : World} {A B : Array Value} (h : Two w U A B) : Two w U.drew A B := ⟨h.1.drew, h.2.1, h.2.2⟩

set_option maxHeartbeats 2000000 in
theorem more_any (A B : Array Value) (K L : List Int) (w : World) (hA : PartC A K) (hB : PartC B L) (dK : Dig K) (dL : Dig L) :
    Calls Try.prog 41 #[.agg A, .agg B] w (RetB (.int .i64 (sgn (val K) (val L))) w) := by
  have HA := Lib.hid hA
  have HB := Lib.hid hB
  have DK := Lib.hid dK
  have DL := Lib.hid dL
  clear hA hB dK dL
  go_enter Try.func41, Try.ntmps41
  go_wp2
  go_loopg [5] 16 (fun k x wr => k ≤ 16 ∧ x = .int .i64 ((k : Int) - 1) ∧ Two w wr A B ∧ ∀ s, k ≤ s → s < 16 → nth K s = nth L s)
  case atStart =>
    refine ⟨by omega, rfl, ⟨below_alloc (below_alloc (Below.refl _ _) _) _, (Bk.new w _ _).alloc _, ?_⟩, by omega⟩
    have := Bk.new (w.alloc (.cells A 42)) 42 B
    simpa using this
  case round =>
    obtain ⟨hj, rfl, ht, he⟩ := hrel
    obtain ⟨j, hjk⟩ : ∃ j, j = gk := ⟨_, rfl⟩
    subst hjk
    have HT := Lib.hid ht
    have HE := Lib.hid he
    clear ht he
    by_cases hp : j = 0
    · subst hp
      have hv : val K = val L := same_all (by rw [HA.out.2, HB.out.2]) (fun t h => HE.out t (by omega) (by have := HA.out.2; omega))
      have hs : sgn (val K) (val L) = 0 := by unfold sgn; rw [if_pos hv]
      have HS := Lib.hid hs.symm
      clear hv hs
      go_wp2
      go_ret
      exact RetB.of (ret_i64 HS.out) HT.out.1
    · obtain ⟨t, rfl⟩ : ∃ t, j = t + 1 := ⟨j - 1, by omega⟩
      have ej : ((t + 1 : Nat) : Int) - 1 = (t : Int) := by omega
      rw [ej]
      have b1 : (t : Int) < 16 := by omega
      have x1 : wr.cell? ⟨w.heap.size, t, none⟩ = some (.int .u64 (nth K t)) := (HT.out.2.1.cell t).trans (HA.out.part (by omega))
      have x2 : wr.cell? ⟨w.heap.size + 1, t, none⟩ = some (.int .u64 (nth L t)) := (HT.out.2.2.cell t).trans (HB.out.part (by omega))
      clear ej
      rcases Int.lt_trichotomy (nth K t) (nth L t) with hlt | heq | hgt
      · have hv : val K < val L := more_at DK.out DL.out (by rw [HA.out.2, HB.out.2]) (by have := HA.out.2; omega) (fun s h1 h2 => HE.out s (by omega) (by have := HA.out.2; omega)) hlt
        have hs : sgn (val K) (val L) = -1 := by unfold sgn; rw [if_neg (by omega), if_pos hv]
        have HS := Lib.hid hs.symm
        clear hv hs
        go_wp2
        go_region
        all_goals (go_wp2; go_ret; exact RetB.of (ret_i64 HS.out) (by repeat (first | exact HT.out.1 | apply below_drew)))
      · have c1 : ¬ nth K t < nth L t := by omega
        have c2 : ¬ nth L t < nth K t := by omega
        have HQ := Lib.hid heq
        clear heq
        go_wp2
        go_region
        go_wp2
        go_region
        go_wp2
        go_roundg t
        case measure => omega
        case rel => exact ⟨by omega, by go_num, by repeat (first | exact HT.out | apply Two.drew), fun s h1 h2 => if h : s = t then by rw [h]; exact HQ.out else HE.out s (by omega) h2⟩
      · have hv : val L < val K := more_at DL.out DK.out (by rw [HA.out.2, HB.out.2]) (by have := HB.out.2; omega) (fun s h1 h2 => (HE.out s (by omega) (by have := HB.out.2; omega)).symm) hgt
        have hs : sgn (val K) (val L) = 1 := by unfold sgn; rw [if_neg (by omega), if_neg (by omega)]
        have c1 : ¬ nth K t < nth L t := by omega
        have HS := Lib.hid hs.symm
        clear hv hs
        go_wp2
        go_region
        go_wp2
        go_region
        all_goals (go_wp2; go_ret; exact RetB.of (ret_i64 HS.out) (by repeat (first | exact HT.out.1 | apply below_drew)))


/-- What the parts from j on come to, read from above: none above the fourth one. -/
def IntI (L : List Int) (j : Nat) (n : Int) : Prop := (∀ s, j ≤ s → 4 ≤ s → s < 16 → nth L s = 0) ∧ n = val ((L.take 4).drop j)

theorem take4 {L : List Int} (hl : L.length = 16) : (L.take 4).length = 4 := by simp [hl]

theorem drop_step {M : List Int} {t : Nat} (h : t < M.length) : val (M.drop t) = nth M t + 65536 * val (M.drop (t + 1)) := by
  rw [List.drop_eq_getElem_cons h, nth_get h]; rfl

theorem intI_low {L : List Int} {t : Nat} {n : Int} (hl : L.length = 16) (ht : t < 4) (h : IntI L (t + 1) n) : IntI L t (n * 65536 + nth L t) := by
  refine ⟨fun s h1 h2 h3 => h.1 s (by omega) h2 h3, ?_⟩
  have e := drop_step (M := L.take 4) (t := t) (by rw [take4 hl]; exact ht)
  have e2 : nth (L.take 4) t = nth L t := by rw [nth_get (by rw [take4 hl]; exact ht), nth_get (by omega)]; simp
  rw [e, e2, h.2]
  omega

theorem intI_high {L : List Int} {t : Nat} {n : Int} (hl : L.length = 16) (ht : 4 ≤ t) (h : IntI L (t + 1) n) (hz : nth L t = 0) : IntI L t n := by
  refine ⟨fun s h1 h2 h3 => if e : s = t then by rw [e]; exact hz else h.1 s (by omega) h2 h3, ?_⟩
  rw [h.2, List.drop_eq_nil_of_le (by rw [take4 hl]; omega), List.drop_eq_nil_of_le (by rw [take4 hl]; omega)]

theorem intI_bd {L : List Int} {j : Nat} {n : Int} (hl : L.length = 16) (hd : Dig L) (h : IntI L j n) : 0 ≤ n ∧ (1 ≤ j → n * 65536 < 18446744073709551616 - 65535) ∧ n < 18446744073709551616 := by
  have hb := val_bd (L := (L.take 4).drop j) (fun x hx => hd x (List.mem_of_mem_take (List.mem_of_mem_drop hx)))
  rw [List.length_drop, take4 hl, ← h.2] at hb
  refine ⟨hb.1, fun hj => ?_, ?_⟩
  · have h : 4 - j = 0 ∨ 4 - j = 1 ∨ 4 - j = 2 ∨ 4 - j = 3 := by omega
    rcases h with h | h | h | h <;> rw [h] at hb <;> omega
  · have h : 4 - j = 0 ∨ 4 - j = 1 ∨ 4 - j = 2 ∨ 4 - j = 3 ∨ 4 - j = 4 := by omega
    rcases h with h | h | h | h | h <;> rw [h] at hb <;> omega

theorem val_split4 {L : List Int} (hl : L.length = 16) : val L = val (L.take 4) + 18446744073709551616 * val (L.drop 4) := by
  have e := val_append (L.take 4) (L.drop 4)
  rw [List.take_append_drop, take4 hl] at e
  exact e

theorem intI_end {L : List Int} {n : Int} (hl : L.length = 16) (h : IntI L 0 n) : n = val L := by
  have hz : L.drop 4 = List.replicate 12 0 := by
    apply List.ext_getElem (by simp [hl])
    intro s h1 h2
    simp only [List.length_drop] at h1
    have := h.1 (4 + s) (by omega) (by omega) (by omega)
    rw [nth_get (by omega)] at this
    rw [List.getElem_replicate]
    simpa using this
  rw [val_split4 hl, hz, val_replicate, h.2]
  simp

theorem val_great {L : List Int} {t : Nat} (hl : L.length = 16) (hd : Dig L) (ht : 4 ≤ t) (ht2 : t < 16) (h : 0 < nth L t) : 18446744073709551616 ≤ val L := by
  have h1 := (val_bd (L := L.take 4) (fun x hx => hd x (List.mem_of_mem_take hx))).1
  have h2 := val_bd (L := L.drop 4) (fun x hx => hd x (List.mem_of_mem_drop hx))
  have h3 : val (L.drop 4) ≠ 0 := fun e => by
    have e2 := (val_zero (L := L.drop 4) (fun x hx => hd x (List.mem_of_mem_drop hx))).1 e
    have e3 : nth (L.drop 4) (t - 4) = 0 := by rw [e2, nth_rep]
    rw [nth_get (by simp; omega)] at e3
    rw [nth_get (by omega)] at h
    simp only [List.getElem_drop] at e3
    have : 4 + (t - 4) = t := by omega
    simp only [this] at e3
    omega
  rw [val_split4 hl]
  omega

/-- A number of 64 bits, and whether it goes into them. -/
def IntAns (z : Int) (w : World) (e : Ending) (w' : World) : Prop := (∃ v, e = .returned (.tuple #[.int .i64 v, .bool (decide (Fit z))]) ∧ (Fit z → v = z)) ∧ Below w.heap.size w w'

theorem fit_pos {n : Int} (h : 0 ≤ n) : decide (n < 9223372036854775808) = decide (Fit n) := by
  rw [Bool.eq_iff_iff, decide_eq_true_eq, decide_eq_true_eq]; unfold Fit; omega
theorem fit_minus {n : Int} (h : 0 ≤ n) : decide (n ≤ 9223372036854775808) = decide (Fit (-n)) := by
  rw [Bool.eq_iff_iff, decide_eq_true_eq, decide_eq_true_eq]; unfold Fit; omega

theorem IntAns.of {z v : Int} {b : Bool} {w w' : World} {e : Ending} (he : e = .returned (.tuple #[.int .i64 v, .bool b])) (hb : b = decide (Fit z)) (hv : Fit z → v = z) (h : Below w.heap.size w w') : IntAns z w e w' :=
  ⟨⟨v, hb ▸ he, hv⟩, h⟩

set_option maxHeartbeats 2000000 in
theorem int_any (c : Array Value) (z : Int) (w : World) (hc : Big c z) : Calls Try.prog 40 #[.agg c] w (IntAns z w) := by
  obtain ⟨m, L, hb, hd, hz, -⟩ := hc
  have HB := Lib.hid hb
  have HD := Lib.hid hd
  have HZ := Lib.hid hz
  have hl := Lib.hid hb.2
  have c0 := hb.sign
  clear hb hd hz
  go_enter Try.func40, Try.ntmps40
  go_wp2
  go_loopg [4, 5] 16 (fun k y x wr => k ≤ 16 ∧ x = .int .i64 ((k : Int) - 1) ∧ wr = w.alloc (.cells c 44) ∧ ∃ n, y = .int .u64 n ∧ IntI L k n)
  case atStart => exact ⟨by omega, rfl, rfl, 0, rfl, fun s _ _ _ => by omega, by rw [List.drop_eq_nil_of_le (by rw [take4 hl.out]; omega)]; rfl⟩
  case round =>
    obtain ⟨hj, rfl, rfl, n, rfl, hi⟩ := hrel
    obtain ⟨j, hjk⟩ : ∃ j, j = gk := ⟨_, rfl⟩
    subst hjk
    have HI := Lib.hid hi
    have nb := intI_bd hl.out HD.out hi
    clear hi
    by_cases hp : j = 0
    · subst hp
      have hv := Lib.hid (intI_end hl.out HI.out)
      have BW := Lib.hid (below_alloc (Below.refl w.heap.size w) (.cells c 44))
      obtain ⟨n0, -, n2⟩ := nb
      cases m
      · have hz : z = n := by rw [HZ.out, hv.out]; simp
        have HZ2 := Lib.hid hz
        clear hz
        go_wp2
        go_ret2
        exact IntAns.of rfl (by rw [HZ2.out]; exact fit_pos n0) (fun h => by rw [HZ2.out] at h ⊢; unfold Fit at h; rw [wrap64_id (by omega) h.2]) BW.out
      · have hz : z = -n := by rw [HZ.out, hv.out]; simp
        have HZ2 := Lib.hid hz
        clear hz
        go_wp2
        go_ret2
        exact IntAns.of rfl (by rw [HZ2.out]; exact fit_minus n0) (fun h => by rw [HZ2.out] at h ⊢; unfold Fit at h; simp only [wrap64_eq]; omega) BW.out
    · obtain ⟨t, rfl⟩ : ∃ t, j = t + 1 := ⟨j - 1, by omega⟩
      have ej : ((t + 1 : Nat) : Int) - 1 = (t : Int) := by omega
      rw [ej]
      have b1 : (t : Int) < 16 := by omega
      have x1 := HB.out.part (j := t) (by omega)
      have hdt := HD.out.nth t
      clear ej
      by_cases h4 : t < 4
      · have h4' : ¬ 3 < (t : Int) := by omega
        have e1 : IntKind.u64.wrap (n * 65536) = n * 65536 := by rw [IntKind.wrap_u64]; omega
        have e2 : IntKind.u64.wrap (n * 65536 + nth L t) = n * 65536 + nth L t := by rw [IntKind.wrap_u64]; omega
        clear nb
        go_wp2
        go_roundg t
        case measure => omega
        case rel => exact ⟨by omega, by go_num, rfl, _, rfl, intI_low hl.out h4 HI.out⟩
      · have h4' : 3 < (t : Int) := by omega
        have h4'' : ¬ (t : Int) < 4 := by omega
        by_cases hz : nth L t = 0
        · have hz' : ¬ 0 < nth L t := by omega
          have HQ := Lib.hid hz
          clear hz nb
          go_wp2
          go_roundg t
          case measure => omega
          case rel => exact ⟨by omega, by go_num, rfl, _, rfl, intI_high hl.out (by omega) HI.out HQ.out⟩
        · have hz' : 0 < nth L t := by omega
          have hg := val_great hl.out HD.out (by omega) (by omega) hz'
          have hf : ¬ Fit z := by
            rw [HZ.out]; unfold Fit
            split <;> omega
          have HF := Lib.hid hf
          have BW := Lib.hid (below_alloc (Below.refl w.heap.size w) (.cells c 44))
          clear hf hg hz nb
          go_wp2
          go_ret2
          exact IntAns.of rfl (decide_eq_false HF.out).symm (fun h => absurd h HF.out) BW.out

end Go.Proofs.Ytaaffpeppdinhaa

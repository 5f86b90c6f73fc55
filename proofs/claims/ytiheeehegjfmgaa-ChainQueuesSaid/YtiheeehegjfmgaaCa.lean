/-
  Contracts of the document's smallest functions of layer 6: the same numbers, within bounds, where a node is, a list without a node.
-/
import Derived.Test.YtiheeehegjfmgaaCl
import Derived.Deep.QuietTactic
import Derived.BigQuiet
namespace Go.Proofs.Ytiheeehegjfmgaa
open Go.RowKit

set_option maxHeartbeats 400000 in
theorem rsameInts_any (A A' : Option Addr) (n c n' c' : Nat) (xs ys : List Int) (w : World) (hx : Ints w A n xs) (hy : Ints w A' n' ys) :
    Calls Try.prog 28 #[.slice A n c, .slice A' n' c'] w (RetB (.bool (sameB xs ys)) w) := by
  obtain ⟨lx, bx, _, cx⟩ := hx
  obtain ⟨ly, by_, _, cy⟩ := hy
  by_cases hn : n = n'
  · subst hn
    have CX := Lib.hid cx
    have CY := Lib.hid cy
    have LX := Lib.hid lx
    have LY := Lib.hid ly
    clear cx cy lx ly
    go_enter Try.func28, Try.ntmps28
    go_wp2
    go_loopw [13] (fun t wr => ∃ k : Nat, k ≤ n ∧ t = .int .i64 k ∧ (∃ d, wr = w.drewN d) ∧ Hid (∀ j, j < k → nth xs j = nth ys j)) (fun t _ => n - (intOf t).toNat)
    case atStart => exact ⟨0, Nat.zero_le _, rfl, ⟨0, rfl⟩, fun j hj => by omega⟩
    case round =>
      obtain ⟨k, hk, rfl, ⟨d, rfl⟩, hall⟩ := hrel
      by_cases hlt : k < n
      · obtain ⟨b, o, rfl, hb, hc⟩ := CX.out (by omega)
        obtain ⟨b', o', rfl, hb', hc'⟩ := CY.out (by omega)
        have c1 := hc k hlt
        have c2 := hc' k hlt
        clear hc hc'
        by_cases he : nth xs k = nth ys k
        · have hs : (nth xs k != nth ys k) = false := by rw [he]; simp
          go_wp2
          go_quiet (fail)
          go_wp2
          go_roundw
          case rel => exact ⟨k + 1, by omega, by go_num, ⟨_, rfl⟩, fun j hj => by rcases Nat.lt_or_ge j k with h | h; exact hall j h; rwa [show j = k from by omega]⟩
          case measure => simp [intOf]; omega
        · have hs : (nth xs k != nth ys k) = true := by simpa using he
          have HF := Lib.hid (sameB_at k he)
          clear he
          go_wp2
          go_quiet (fail)
          go_wp2
          go_ret
          exact RetB.of (ret_bool HF.out.symm) (below_drewN (below_drewN (Below.refl _ _) d) _)
      · have : k = n := by omega
        subst this
        have HF := Lib.hid (sameB_all LX.out LY.out hall)
        go_wp2
        go_ret
        exact RetB.of (ret_bool HF.out.symm) (below_drewN (Below.refl _ _) d)
  · have hne : ((n : Int) != (n' : Int)) = true := by simp; omega
    have hf : sameB xs ys = false := sameB_len (by omega)
    have HF := Lib.hid hf
    clear hf lx ly
    go_enter Try.func28, Try.ntmps28
    go_wp2
    go_ret
    exact RetB.of (ret_bool HF.out.symm) (Below.refl _ _)

/-- It is from 0 on, and below the other one. -/
def inBd (n b : Int) : Bool := decide (0 ≤ n ∧ n < b)
theorem rin_any (n b : Int) (w : World) : Calls Try.prog 34 #[.int .i64 n, .int .i64 b] w fun e w' => e = .returned (.bool (inBd n b)) ∧ w = w' := by
  by_cases h : 0 ≤ n
  · have H : Hid (decide (n < b) = inBd n b) := Lib.hid (by simp [inBd, h])
    go_enter Try.func34, Try.ntmps34
    go_wp2
    go_ret
    exact ⟨ret_bool H.out, rfl⟩
  · have H : Hid (false = inBd n b) := Lib.hid (by simp [inBd, h])
    go_enter Try.func34, Try.ntmps34
    go_wp2
    go_ret
    exact ⟨ret_bool H.out, rfl⟩

theorem where_first {qs : List (List Int)} {x : Int} {i : Nat} (hi : i < qs.length) (hx : x ∈ qth qs i) (h : ∀ j, j < qs.length → x ∈ qth qs j → j = i) : whereQ qs x = (i : Int) := by
  have hex : ∃ i, i < qs.length ∧ x ∈ qth qs i := ⟨i, hi, hx⟩
  rw [whereQ, dif_pos hex]
  obtain ⟨h1, h2⟩ := hex.choose_spec
  rw [h _ h1 h2]

/-- Where a node is, of lists that share none. -/
theorem rwhere_any (H : Option Addr) (n C : Nat) (hs : List (Option Addr × Nat)) (qs : List (List Int)) (x : Int) (base : Nat) (w : World) (hn : qs.length = n) (hb : n ≤ 256) (hq : OwnQs 3 22 w base H C hs qs) (h1 : ∀ i j, i < qs.length → j < qs.length → x ∈ qth qs i → x ∈ qth qs j → i = j) :
    Calls Try.prog 35 #[.slice H n C, .int .i64 x] w fun e w' => e = .returned (.int .i64 (whereQ qs x)) ∧ w = w' := by
  have HQ := Lib.hid hq
  have HN := Lib.hid hn
  have H1 := Lib.hid h1
  clear hq hn h1
  go_enter Try.func35, Try.ntmps35
  go_wp2
  go_loop [11] (fun t => ∃ k : Nat, k ≤ n ∧ t = .int .i64 k ∧ Hid (∀ j, j < k → x ∉ qth qs j)) (fun t => n - (intOf t).toNat)
  case atStart => exact ⟨0, Nat.zero_le _, rfl, Lib.hid (fun j hj => by omega)⟩
  case round =>
    obtain ⟨k, hk, rfl, HX⟩ := hrel
    by_cases hlt : k < n
    · have hkq : k < qs.length := by rw [HN.out]; exact hlt
      obtain ⟨g, rfl, -, -⟩ := HQ.out.form (by omega)
      have ck := (HQ.out.at_ hkq).1
      have ho := HQ.out.own k hkq
      obtain ⟨z, hz⟩ : ∃ z, (qth qs k).length = z := ⟨_, rfl⟩
      have LZ := Lib.hid hz
      rw [hz] at ck
      have hz8 : z * 8 ≤ 140737488351232 := by rw [← hz]; exact ho.1
      have HI : Hid (Ints w (qa hs k).1 z (qth qs k)) := Lib.hid (hz ▸ ho.ints)
      generalize (qa hs k).1 = A' at ck HI
      generalize (qa hs k).2 = c' at ck
      clear ho hz
      go_wp2
      go_loop [18] (fun t => ∃ p : Nat, p ≤ z ∧ t = .int .i64 p ∧ Hid (∀ q, q < p → nth (qth qs k) q ≠ x)) (fun t => z - (intOf t).toNat)
      case atStart => exact ⟨0, Nat.zero_le _, rfl, Lib.hid (fun q hq => by omega)⟩
      case round =>
        obtain ⟨p, hp, rfl, HP⟩ := hrel
        by_cases hlt2 : p < z
        · obtain ⟨b, o, rfl, -, hc⟩ := HI.out.2.2.2 (by omega)
          have cp := hc p hlt2
          obtain ⟨v, hv⟩ : ∃ v, nth (qth qs k) p = v := ⟨_, rfl⟩
          have HV := Lib.hid hv
          rw [hv] at cp
          clear hc hv
          by_cases e : v = x
          · have he : (v == x) = true := by simpa using e
            have HW : Hid (whereQ qs x = (k : Int)) := Lib.hid (by
              have hm : x ∈ qth qs k := by rw [← e, ← HV.out]; exact nth_mem_ (by rw [LZ.out]; exact hlt2)
              exact where_first hkq hm fun j hj hxj => H1.out j k hj hkq hxj hm)
            clear e
            go_wp2
            go_ret
            exact ⟨by rw [HW.out]; rfl, rfl⟩
          · have he : (v == x) = false := by simpa using e
            have HP2 : Hid (∀ q, q < p + 1 → nth (qth qs k) q ≠ x) := Lib.hid (fun q hq => by
              rcases Nat.lt_or_ge q p with h | h
              · exact HP.out q h
              · obtain rfl : q = p := by omega
                rw [HV.out]; exact e)
            clear e
            go_wp2
            go_round
            case rel => exact ⟨p + 1, by omega, by go_num, HP2⟩
            case measure => simp [intOf]; omega
        · have HX2 : Hid (∀ j, j < k + 1 → x ∉ qth qs j) := Lib.hid (fun j hj hm => by
            rcases Nat.lt_or_ge j k with h | h
            · exact HX.out j h hm
            · obtain rfl : j = k := by omega
              obtain ⟨q, hq, e⟩ := mem_nth hm
              exact HP.out q (by rw [LZ.out] at hq; omega) e)
          go_wp2
          go_round
          case rel => exact ⟨k + 1, by omega, by go_num, HX2⟩
          case measure => simp [intOf]; omega
    · have HW : Hid (whereQ qs x = -1) := Lib.hid (where_no fun i hi => HX.out i (by rw [HN.out] at hi; omega))
      go_wp2
      go_ret
      exact ⟨by rw [HW.out]; rfl, rfl⟩

/-- A list without a node. -/
theorem rwithout_any (A : Option Addr) (n c : Nat) (xs : List Int) (x : Int) (w : World) (hA : Ints w A n xs) :
    Calls Try.prog 39 #[.slice A n c, .int .i64 x] w (NewI 3 (xs.filter (fun y => y != x)) w) := by
  have HA := Lib.hid hA
  have LA := Lib.hid hA.1
  have hn := hA.2.1
  clear hA
  go_enter Try.func39, Try.ntmps39
  go_wp2
  go_loopw [5, 10] (fun u t wr => ∃ k : Nat, k ≤ n ∧ t = .int .i64 k ∧ ∃ B d z ys, u = .slice B z d ∧ z ≤ k ∧ Hid (ys = (xs.take k).filter (fun y => y != x) ∧ ys.length = z) ∧ Hid (OwnI 3 wr w.heap.size B d ys ∧ Below w.heap.size w wr)) (fun _ t _ => n - (intOf t).toNat)
  case atStart => exact ⟨0, Nat.zero_le _, rfl, none, 0, 0, [], rfl, Nat.le_refl _, Lib.hid ⟨rfl, rfl⟩, Lib.hid ⟨OwnI.nil_ _ _ _, Below.refl _ _⟩⟩
  case round =>
    rename World => wo
    obtain ⟨k, hk, rfl, B, d, z, ys, rfl, hzk, HY, HO⟩ := hrel
    have LZ := Lib.hid HY.out.2
    by_cases hlt : k < n
    · obtain ⟨b, o, rfl, hb, hc⟩ := HA.out.2.2.2 (by omega)
      have ck := (HO.out.2.cell (p := ⟨b, o + k, none⟩) hb).trans (hc k hlt)
      have hkx : k < xs.length := by rw [LA.out]; exact hlt
      have htk : xs.take (k + 1) = xs.take k ++ [nth xs k] := by rw [List.take_succ_eq_append_getElem hkx, nth_get hkx]
      have HFT := Lib.hid (HA.out.2.2.1 _ (nth_mem_ hkx))
      obtain ⟨v, hv⟩ : ∃ v, nth xs k = v := ⟨_, rfl⟩
      rw [hv] at ck htk HFT
      have HTK := Lib.hid htk
      clear hb hc hv htk
      by_cases e : v = x
      · have he : (v != x) = false := by simpa using e
        have HY2 : Hid (ys = (xs.take (k + 1)).filter (fun y => y != x) ∧ ys.length = z) := Lib.hid (by
          rw [HTK.out, List.filter_append]; simp only [List.filter_cons, he]; simpa using HY.out)
        clear e
        go_wp2
        go_roundw
        case rel => exact ⟨k + 1, by omega, by go_num, B, d, z, ys, rfl, by omega, HY2, HO⟩
        case measure => simp [intOf]; omega
      · have he : (v != x) = true := by simpa using e
        have HY2 : Hid (ys ++ [v] = (xs.take (k + 1)).filter (fun y => y != x) ∧ (ys ++ [v]).length = z + 1) := Lib.hid (by
          rw [HTK.out, List.filter_append]; simp only [List.filter_cons, he]
          exact ⟨by rw [HY.out.1]; simp, by rw [List.length_append, LZ.out]; rfl⟩)
        have O1 := Lib.hid (HO.out.1.below ((Below.refl wo.heap.size wo).alloc (Nat.le_refl _) (.cells #[.int .i64 v] 3)))
        have B1 := Lib.hid (HO.out.2.alloc HO.out.2.size (.cells #[.int .i64 v] 3))
        clear e
        go_wp2_with (at_builtin; refine wpList_append_ints _ rfl _ _ 22 rfl 3 Try.underlying22 Try.intInfo w.heap.size B d ys z LZ.out.symm rfl O1.out (some ⟨wo.heap.size, 0, none⟩) 1 1 [v] rfl (ints1 wo 3 HFT.out) (by rw [LZ.out]; omega) B1.out.size ?_)
        intro A5 c5 w5 ho5 hg5
        have O5 : Hid (OwnI 3 w5 w.heap.size A5 c5 (ys ++ [v]) ∧ Below w.heap.size w w5) := Lib.hid ⟨ho5, B1.out.grown hg5 B1.out.size O1.out.block⟩
        rw [LZ.out]
        clear ho5 hg5 ck
        go_wp2
        go_roundw
        case rel => exact ⟨k + 1, by omega, by go_num, A5, c5, z + 1, ys ++ [v], rfl, by omega, HY2, O5⟩
        case measure => simp [intOf]; omega
    · obtain rfl : k = n := by omega
      have hF : ys = xs.filter (fun y => y != x) := by rw [HY.out.1, List.take_of_length_le (by rw [LA.out]; exact Nat.le_refl _)]
      have HF := Lib.hid hF
      clear hF
      go_wp2
      go_ret
      exact ⟨B, d, by rw [← HF.out, LZ.out]; rfl, HF.out ▸ HO.out.1, HO.out.2⟩

end Go.Proofs.Ytiheeehegjfmgaa

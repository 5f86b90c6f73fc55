/-
  Layer 10's words: a semaphore as a number and a list; whether it may be; the document's Has and Without; lists held against each other.
-/
import Derived.Test.YtokmogfnliccjaaRows
import Derived.Test.YtokmogfnliccjaaKit
import Derived.Test.YtokmogfnliccjaaCalmX
import Derived.Deep.QuietTactic
import Derived.BigQuiet
import Derived.Deep.CutBlock
namespace Go.Proofs.Ytokmogfnliccjaa
open Go.RowKit

theorem infoI8 : (Try.prog.info? 2).map (fun i => (i.zero, i.size, i.bytes)) = some (some (.int .i64 0), 1, 8) := by kernel_rfl

/-- A list without a number. -/
def wo (l : List Int) (x : Int) : List Int := l.filter fun y => decide (y ≠ x)
def hasB (l : List Int) (x : Int) : Bool := decide (x ∈ l)
theorem hasB_yes {l : List Int} {x : Int} (h : x ∈ l) : hasB l x = true := decide_eq_true h
theorem hasB_no {l : List Int} {x : Int} (h : x ∉ l) : hasB l x = false := decide_eq_false h
theorem hasB_iff {l : List Int} {x : Int} : hasB l x = true ↔ x ∈ l := decide_eq_true_iff
theorem wo_nil (x : Int) : wo [] x = [] := rfl
theorem mem_nth {l : List Int} {x : Int} : x ∈ l ↔ ∃ j, j < l.length ∧ nth l j = x := by
  rw [List.mem_iff_getElem]
  exact ⟨fun ⟨j, h, e⟩ => ⟨j, h, by rw [nth_get h]; exact e⟩, fun ⟨j, h, e⟩ => ⟨j, h, by rw [nth_get h] at e; exact e⟩⟩
theorem take_next {l : List Int} {k : Nat} (h : k < l.length) : l.take (k + 1) = l.take k ++ [nth l k] := by rw [nth_get h]; exact (List.take_append_getElem h).symm
theorem wo_next {l : List Int} {k : Nat} (h : k < l.length) (x : Int) : wo (l.take (k + 1)) x = if nth l k = x then wo (l.take k) x else wo (l.take k) x ++ [nth l k] := by
  rw [take_next h]
  unfold wo
  rw [List.filter_append]
  by_cases e : nth l k = x
  · simp [e]
  · simp [e]
theorem wo_len (l : List Int) (x : Int) : (wo l x).length ≤ l.length := List.length_filter_le _ _
theorem wo_mem {l : List Int} {x y : Int} : y ∈ wo l x ↔ y ∈ l ∧ y ≠ x := by simp [wo]

/-- How long a slice of the call's own may be. -/
theorem OwnI.cap {E : TypeId} {w : World} {base : Nat} {A : Option Addr} {c : Nat} {zs : List Int} (h : OwnI E w base A c zs) : zs.length ≤ c ∧ c ≤ 9223372036854775807 := by
  rcases h.2.2.2 with ⟨e, h0⟩ | ⟨g, cap, cur, e, _, _, hc, hm, _⟩
  · injection e with _ e2 e3
    omega
  · injection e with _ _ e3
    subst e3
    unfold maxLen at hm
    omega
theorem OwnI.intsN {E : TypeId} {w : World} {base : Nat} {A : Option Addr} {c n : Nat} {zs : List Int} (h : OwnI E w base A c zs) (hl : zs.length = n) : Ints w A n zs := hl ▸ h.ints
theorem Ints.at_ {w : World} {A : Option Addr} {n : Nat} {zs : List Int} (h : Ints w A n zs) {k : Nat} (hk : k < n) : ∃ b o, A = some ⟨b, o, none⟩ ∧ b < w.heap.size ∧ w.cell? ⟨b, o + k, none⟩ = some (.int .i64 (nth zs k)) := by
  obtain ⟨b, o, e, hb, hc⟩ := h.2.2.2 (by omega)
  exact ⟨b, o, e, hb, hc k hk⟩
theorem Ints.fit {w : World} {A : Option Addr} {n : Nat} {zs : List Int} (h : Ints w A n zs) {k : Nat} (hk : k < n) : Fit (nth zs k) := by
  have hl := h.1
  rw [nth_get (by omega)]
  exact h.2.2.1 _ (List.getElem_mem _)

theorem below_app {B : Nat} {w w' : World} {A : Option Addr} {n c : Nat} {W : World} {t : TypeId} {xs : List Int} (hb : Below B W w) (ho : OwnI t w B A c xs) (hg : w.grownBy w' (Value.slice A n c).ownBlock) (hs : B ≤ w.heap.size := by first | exact Nat.le_refl _ | omega) : Below B W w' :=
  hb.grown hg hs (by intro k hk; exact ho.block k hk)

set_option maxHeartbeats 400000 in
theorem rhas_any (A : Option Addr) (n c : Nat) (l : List Int) (x : Int) (w : World) (hx : Ints w A n l) :
    Calls Try.prog 22 #[.slice A n c, .int .i64 x] w (RetB (.bool (hasB l x)) w) := by
  have HX := Lib.hid hx
  have LX := Lib.hid hx.1
  have hn := hx.2.1
  clear hx
  go_enter Try.func22, Try.ntmps22
  go_wp2
  go_loopw [9] (fun t wr => ∃ k : Nat, k ≤ n ∧ t = .int .i64 k ∧ Hid (Below w.heap.size w wr ∧ ∀ j, j < k → nth l j ≠ x)) (fun t _ => n - (intOf t).toNat)
  case atStart => exact ⟨0, Nat.zero_le _, rfl, Lib.hid ⟨Below.refl _ _, fun j hj => by omega⟩⟩
  case round =>
    rename World => wr
    obtain ⟨k, hk, rfl, OK⟩ := hrel
    by_cases hkn : k < n
    · obtain ⟨b, o, rfl, hb, hc⟩ := (HX.out.below OK.out.1).at_ hkn
      obtain ⟨z, hz⟩ : ∃ z, nth l k = z := ⟨_, rfl⟩
      rw [hz] at hc
      by_cases he : z = x
      · have t0 : (z == x) = true := by simpa using he
        have HF := Lib.hid (hasB_yes (mem_nth.2 ⟨k, by rw [LX.out]; exact hkn, hz.trans he⟩))
        have HB := Lib.hid OK.out.1
        clear he hz OK
        go_wp2
        go_ret
        exact RetB.of (ret_bool HF.out.symm) HB.out
      · have t0 : (z == x) = false := by simpa using he
        have OK2 : Hid (Below w.heap.size w wr ∧ ∀ j, j < k + 1 → nth l j ≠ x) := Lib.hid ⟨OK.out.1, fun i hi => by
          by_cases e : i = k
          · subst e; rw [hz]; exact he
          · exact OK.out.2 i (by omega)⟩
        clear he hz OK
        go_wp2
        go_roundw
        case rel => exact ⟨k + 1, by omega, by go_num, OK2⟩
        case measure => simp [intOf]; omega
    · obtain rfl : n = k := by omega
      have HF := Lib.hid (hasB_no (l := l) (x := x) (fun q => by
        obtain ⟨j, hj, e⟩ := mem_nth.1 q
        exact OK.out.2 j (by have := LX.out; omega) e))
      have HB := Lib.hid OK.out.1
      clear OK
      go_wp2
      go_ret
      exact RetB.of (ret_bool HF.out.symm) HB.out

set_option maxHeartbeats 1000000 in
theorem rwo_any (A : Option Addr) (n c : Nat) (l : List Int) (x : Int) (w : World) (hx : Ints w A n l) :
    Calls Try.prog 23 #[.slice A n c, .int .i64 x] w (NewI 2 (wo l x) w) := by
  have HX := Lib.hid hx
  have LX := Lib.hid hx.1
  have hn := hx.2.1
  clear hx
  go_enter Try.func23, Try.ntmps23
  go_wp2
  go_loopw [5, 10] (fun u5 t wr => ∃ k : Nat, k ≤ n ∧ t = .int .i64 k ∧ ∃ Ao co ys, u5 = .slice Ao ys.length co ∧ ys.length ≤ k ∧ Hid (ys = wo (l.take k) x) ∧ Hid (OwnI 2 wr w.heap.size Ao co ys) ∧ Hid (Below w.heap.size w wr)) (fun _ t _ => n - (intOf t).toNat)
  case atStart => exact ⟨0, Nat.zero_le _, rfl, none, 0, [], rfl, Nat.le_refl _, Lib.hid rfl, Lib.hid (OwnI.nil_ _ _ _), Lib.hid (Below.refl _ _)⟩
  case round =>
    rename World => wr
    obtain ⟨k, hk, rfl, Ao, co, ys, rfl, hyl, YS, OY, BW⟩ := hrel
    by_cases hkn : k < n
    · obtain ⟨b, o, rfl, hb, hc⟩ := (HX.out.below BW.out).at_ hkn
      have hkl : k < l.length := by rw [LX.out]; exact hkn
      have fz : Fit (nth l k) := HX.out.fit hkn
      have hwn := wo_next hkl x
      obtain ⟨z, hz⟩ : ∃ z, nth l k = z := ⟨_, rfl⟩
      rw [hz] at hc fz hwn
      have FZ := Lib.hid fz
      clear hz fz
      by_cases he : z = x
      · have t0 : (z != x) = false := by simpa using he
        have YN : Hid (ys = wo (l.take (k + 1)) x) := Lib.hid (by rw [hwn, if_pos he]; exact YS.out)
        clear he hwn YS
        go_wp2
        go_roundw
        case rel => exact ⟨k + 1, by omega, by go_num, Ao, co, ys, rfl, by omega, YN, OY, BW⟩
        case measure => simp [intOf]; omega
      · have t0 : (z != x) = true := by simpa using he
        have YN : Hid (ys ++ [z] = wo (l.take (k + 1)) x) := Lib.hid (by rw [hwn, if_neg he, ← YS.out])
        have b1 := (Below.refl wr.heap.size wr).alloc (Nat.le_refl _) (.cells #[.int .i64 z] 2)
        have O4 := Lib.hid (OY.out.below b1)
        have B4 := Lib.hid (below3 BW.out b1)
        have T1 := Lib.hid (ints1 wr 2 FZ.out)
        have hsz : w.heap.size ≤ wr.heap.size := BW.out.size
        have hsz2 := B4.out.size
        have HS2 := Lib.hid hsz2
        clear he hwn YS b1 OY BW hsz2
        go_wp2_with (at_builtin; refine wpList_append_ints _ rfl _ _ 22 rfl 2 Try.underlying22 infoI8 w.heap.size Ao co ys _ rfl rfl O4.out (some ⟨wr.heap.size, 0, none⟩) 1 1 [z] rfl T1.out (by omega) (by simp; omega) ?_; intro A2 c2 w4 ho hgr; have O5 := Lib.hid ho; have B5 := Lib.hid (below_app B4.out O4.out hgr HS2.out); clear ho hgr T1 O4 B4)
        go_roundw
        case rel => exact ⟨k + 1, by omega, by go_num, A2, c2, _, by simp, by simp; omega, YN, O5, B5⟩
        case measure => simp [intOf]; omega
    · obtain rfl : n = k := by omega
      have e : ys = wo l x := by rw [YS.out, ← LX.out, List.take_length]
      subst e
      clear YS
      go_wp2
      go_ret
      exact ⟨Ao, co, rfl, OY.out, BW.out⟩

set_option maxHeartbeats 400000 in
theorem equalI_any (A A' : Option Addr) (n c n' c' : Nat) (xs ys : List Int) (w : World) (hx : Ints w A n xs) (hy : Ints w A' n' ys) :
    Calls Try.prog 34 #[.slice A n c, .slice A' n' c'] w (RetB (.bool (sameB xs ys)) w) := by
  obtain ⟨lx, bx, _, cx⟩ := hx
  obtain ⟨ly, by_, _, cy⟩ := hy
  by_cases hn : n = n'
  · subst hn
    have CX := Lib.hid cx
    have CY := Lib.hid cy
    have LX := Lib.hid lx
    have LY := Lib.hid ly
    clear cx cy lx ly
    go_enter Try.func34, Try.ntmps34
    go_wp2
    go_loopw [13] (fun t wr => ∃ k : Nat, k ≤ n ∧ t = .int .i64 k ∧ (∃ d, wr = w.drewN d) ∧ Hid (∀ j, j < k → nth xs j = nth ys j)) (fun t _ => n - (intOf t).toNat)
    case atStart => exact ⟨0, Nat.zero_le _, rfl, ⟨0, rfl⟩, fun j hj => by omega⟩
    case round =>
      obtain ⟨k, hk, rfl, ⟨d, rfl⟩, hall⟩ := hrel
      by_cases hlt : k < n
      · obtain ⟨b, o, rfl, hb, hc⟩ := CX.out (by omega)
        obtain ⟨b', o', rfl, hb', hc'⟩ := CY.out (by omega)
        have c1 := hc k hlt
        have c2 := hc' k hlt
        clear hc hc'
        by_cases he : nth xs k = nth ys k
        · have hs : (nth xs k != nth ys k) = false := by rw [he]; simp
          go_wp2
          go_quiet (fail)
          go_wp2
          go_roundw
          case rel => exact ⟨k + 1, by omega, by go_num, ⟨_, rfl⟩, fun j hj => by rcases Nat.lt_or_ge j k with h | h; exact hall j h; rwa [show j = k from by omega]⟩
          case measure => simp [intOf]; omega
        · have hs : (nth xs k != nth ys k) = true := by simpa using he
          have HF := Lib.hid (sameB_at k he)
          clear he
          go_wp2
          go_quiet (fail)
          go_wp2
          go_ret
          exact RetB.of (ret_bool HF.out.symm) (below_drewN (below_drewN (Below.refl _ _) d) _)
      · have : k = n := by omega
        subst this
        have HF := Lib.hid (sameB_all LX.out LY.out hall)
        go_wp2
        go_ret
        exact RetB.of (ret_bool HF.out.symm) (below_drewN (Below.refl _ _) d)
  · have hne : ((n : Int) != (n' : Int)) = true := by simp; omega
    have hf : sameB xs ys = false := sameB_len (by omega)
    have HF := Lib.hid hf
    clear hf lx ly
    go_enter Try.func34, Try.ntmps34
    go_wp2
    go_ret
    exact RetB.of (ret_bool HF.out.symm) (Below.refl _ _)

set_option maxHeartbeats 400000 in
theorem rsame01_any (A A' : Option Addr) (n c n' c' : Nat) (xs ys : List Int) (w : World) (hx : Ints w A n xs) (hy : Ints w A' n' ys) :
    Calls Try.prog 21 #[.slice A n c, .slice A' n' c'] w (RetB (.bool (sameB xs ys)) w) := by
  obtain ⟨lx, bx, _, cx⟩ := hx
  obtain ⟨ly, by_, _, cy⟩ := hy
  by_cases hn : n = n'
  · subst hn
    have CX := Lib.hid cx
    have CY := Lib.hid cy
    have LX := Lib.hid lx
    have LY := Lib.hid ly
    clear cx cy lx ly
    go_enter Try.func21, Try.ntmps21
    go_wp2
    go_loopw [13] (fun t wr => ∃ k : Nat, k ≤ n ∧ t = .int .i64 k ∧ (∃ d, wr = w.drewN d) ∧ Hid (∀ j, j < k → nth xs j = nth ys j)) (fun t _ => n - (intOf t).toNat)
    case atStart => exact ⟨0, Nat.zero_le _, rfl, ⟨0, rfl⟩, fun j hj => by omega⟩
    case round =>
      obtain ⟨k, hk, rfl, ⟨d, rfl⟩, hall⟩ := hrel
      by_cases hlt : k < n
      · obtain ⟨b, o, rfl, hb, hc⟩ := CX.out (by omega)
        obtain ⟨b', o', rfl, hb', hc'⟩ := CY.out (by omega)
        have c1 := hc k hlt
        have c2 := hc' k hlt
        clear hc hc'
        by_cases he : nth xs k = nth ys k
        · have hs : (nth xs k != nth ys k) = false := by rw [he]; simp
          go_wp2
          go_quiet (fail)
          go_wp2
          go_roundw
          case rel => exact ⟨k + 1, by omega, by go_num, ⟨_, rfl⟩, fun j hj => by rcases Nat.lt_or_ge j k with h | h; exact hall j h; rwa [show j = k from by omega]⟩
          case measure => simp [intOf]; omega
        · have hs : (nth xs k != nth ys k) = true := by simpa using he
          have HF := Lib.hid (sameB_at k he)
          clear he
          go_wp2
          go_quiet (fail)
          go_wp2
          go_ret
          exact RetB.of (ret_bool HF.out.symm) (below_drewN (below_drewN (Below.refl _ _) d) _)
      · have : k = n := by omega
        subst this
        have HF := Lib.hid (sameB_all LX.out LY.out hall)
        go_wp2
        go_ret
        exact RetB.of (ret_bool HF.out.symm) (below_drewN (Below.refl _ _) d)
  · have hne : ((n : Int) != (n' : Int)) = true := by simp; omega
    have hf : sameB xs ys = false := sameB_len (by omega)
    have HF := Lib.hid hf
    clear hf lx ly
    go_enter Try.func21, Try.ntmps21
    go_wp2
    go_ret
    exact RetB.of (ret_bool HF.out.symm) (Below.refl _ _)

end Go.Proofs.Ytokmogfnliccjaa

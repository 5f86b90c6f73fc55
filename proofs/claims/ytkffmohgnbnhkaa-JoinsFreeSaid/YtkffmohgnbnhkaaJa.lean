/-
  Layer 11: what is read of joins: '==' on them, two lists held against one another, a number in a list; a row of them with one behind.
-/
import Derived.Test.YtkffmohgnbnhkaaRows
import Derived.Test.YtkffmohgnbnhkaaJm
import Derived.Test.YtkffmohgnbnhkaaKit
import Derived.Test.YtkffmohgnbnhkaaCalmX
import Derived.Laws.StructEq
import Derived.Deep.QuietTactic
import Derived.BigQuiet
import Derived.Deep.CutBlock
namespace Go.Proofs.Ytkffmohgnbnhkaa
open Go.RowKit

theorem infoI8 : (Try.prog.info? 2).map (fun i => (i.zero, i.size, i.bytes)) = some (some (.int .i64 0), 1, 8) := by kernel_rfl
theorem infoT : (Try.prog.info? 37).map (fun i => (i.zero, i.size, i.bytes)) = some (some (.agg #[.int .i64 0, .int .i64 0]), 2, 16) := by kernel_rfl

def NewT (p : List Tm) (w : World) (e : Ending) (w' : World) : Prop :=
  ∃ A c, e = .returned (.slice A p.length c) ∧ OwnT 37 w' w.heap.size A c p ∧ Below w.heap.size w w'
theorem tms1 (w : World) (E : TypeId) {a b : Int} (fa : Fit a) (fb : Fit b) : Tms (w.alloc (.cells #[.int .i64 a, .int .i64 b] E)) (some ⟨w.heap.size, 0, none⟩) 1 1 [(a, b)] := by
  have k := Bk.new w E #[.int .i64 a, .int .i64 b]
  refine ⟨rfl, by omega, by simpa [FitI] using ⟨fa, fb⟩, fun _ => ⟨w.heap.size, 0, rfl, k.lt, fun j hj => ?_⟩⟩
  obtain rfl : j = 0 := by omega
  exact ⟨k.cell 0, k.cell 1⟩
theorem take_succ {l : List Tm} {k : Nat} (h : k < l.length) : l.take (k + 1) = l.take k ++ [ith l k] := by
  rw [List.take_add_one, List.getElem?_eq_getElem h, ith_get h]; rfl
theorem filter_yes {l : List Tm} {k : Nat} (h : k < l.length) {f : Tm → Bool} (hf : f (ith l k) = true) : (l.take (k + 1)).filter f = (l.take k).filter f ++ [ith l k] := by rw [take_succ h]; simp [hf]
theorem filter_no {l : List Tm} {k : Nat} (h : k < l.length) {f : Tm → Bool} (hf : f (ith l k) = false) : (l.take (k + 1)).filter f = (l.take k).filter f := by rw [take_succ h]; simp [hf]
theorem filter_few (l : List Tm) (k : Nat) (f : Tm → Bool) : ((l.take k).filter f).length ≤ k := Nat.le_trans (List.length_filter_le _ _) (by rw [List.length_take]; omega)
theorem tim_stood : Try.prog.stoodInHeld 37 = false := by kernel_rfl
theorem tim_guardT : Try.prog.eqGuardType Try.prog.depth 37 = false := by kernel_rfl
theorem neq_tim (a b c d : Int) (W : World) : (binOp .neq 37 (.agg #[.int .i64 a, .int .i64 b]) (.agg #[.int .i64 c, .int .i64 d])).run Try.prog W = .ok (.bool (!(a == c && b == d))) W := by
  rw [run_neq_struct, run_equalIn_struct (d := 9999) W 37 _ _ (by simp [Program.fieldsOf, Try.underlying37]) tim_stood]
  simp only [Program.fieldsOf, Try.underlying37]
  by_cases h1 : a = c
  · by_cases h2 : b = d
    · subst h1 h2
      simp [Op.eqFields, go_sem]
    · have t2 : (b == d) = false := by simpa using h2
      subst h1
      simp [Op.eqFields, go_sem, t2]
  · have t1 : (a == c) = false := by simpa using h1
    simp [Op.eqFields, go_sem, t1]
theorem eql_tim (a b c d : Int) (W : World) : (binOp .eql 37 (.agg #[.int .i64 a, .int .i64 b]) (.agg #[.int .i64 c, .int .i64 d])).run Try.prog W = .ok (.bool (a == c && b == d)) W := by
  rw [run_eql_struct, run_equalIn_struct (d := 9999) W 37 _ _ (by simp [Program.fieldsOf, Try.underlying37]) tim_stood]
  simp only [Program.fieldsOf, Try.underlying37]
  by_cases h1 : a = c
  · by_cases h2 : b = d
    · subst h1 h2
      simp [Op.eqFields, go_sem]
    · have t2 : (b == d) = false := by simpa using h2
      subst h1
      simp [Op.eqFields, go_sem, t2]
  · have t1 : (a == c) = false := by simpa using h1
    simp [Op.eqFields, go_sem, t1]
theorem guard_tim (o : BinOp) (x y : Operand) (a b : Array Value) (W : World) : (eqGuard o 37 x y (.agg a) (.agg b)).run Try.prog W = .ok () W := run_eqGuard_agg W o 37 x y a b tim_guardT

theorem drewN_two (w : World) (a b : Nat) : ∃ k, (w.drewN a).drewN b = w.drewN k := ⟨a + b, by rw [World.drewN_drewN]⟩
def sameT (a b : List Tm) : Bool := decide (a = b)
theorem sameT_refl (a : List Tm) : sameT a a = true := decide_eq_true rfl
theorem sameT_len {a b : List Tm} (h : a.length ≠ b.length) : sameT a b = false := decide_eq_false (fun e => h (by rw [e]))
theorem sameT_at {a b : List Tm} (k : Nat) (h : ith a k ≠ ith b k) : sameT a b = false := decide_eq_false (fun e => h (by rw [e]))
theorem sameT_all {a b : List Tm} {n : Nat} (h1 : a.length = n) (h2 : b.length = n) (h : ∀ j, j < n → ith a j = ith b j) : sameT a b = true := by
  refine decide_eq_true (List.ext_getElem (by omega) fun i hi hj => ?_)
  have := h i (by omega)
  rw [ith_get hi, ith_get hj] at this
  exact this
def SameTA (b : Bool) (w : World) (e : Ending) (w' : World) : Prop := e = .returned (.bool b) ∧ ∃ k, w' = w.drewN k

set_option maxHeartbeats 1000000 in
theorem rsame_any (A A' : Option Addr) (n c n' c' : Nat) (xs ys : List Tm) (w : World) (hx : Tms w A n c xs) (hy : Tms w A' n' c' ys) :
    Calls Try.prog 17 #[.slice A n c, .slice A' n' c'] w (SameTA (sameT xs ys) w) := by
  have HX := Lib.hid hx
  have HY := Lib.hid hy
  have hn0 := hx.2.1
  have LX := Lib.hid hx.1
  have LY := Lib.hid hy.1
  clear hx hy
  by_cases hn : n = n'
  · subst hn
    go_enter Try.func17, Try.ntmps17
    go_wp2
    go_loopw [13] (fun t wr => ∃ k : Nat, k ≤ n ∧ t = .int .i64 k ∧ (∃ d, wr = w.drewN d) ∧ Hid (∀ j, j < k → ith xs j = ith ys j)) (fun t _ => n - (intOf t).toNat)
    case atStart => exact ⟨0, Nat.zero_le _, rfl, ⟨0, rfl⟩, fun j hj => by omega⟩
    case round =>
      obtain ⟨k, hk, rfl, ⟨d, rfl⟩, hall⟩ := hrel
      by_cases hlt : k < n
      · obtain ⟨bL, oL, rfl, hbL, c0, c1⟩ := HX.out.at_ hlt
        obtain ⟨bR, oR, rfl, hbR, d0, d1⟩ := HY.out.at_ hlt
        obtain ⟨z1, hz1⟩ : ∃ z, jO xs k = z := ⟨_, rfl⟩
        obtain ⟨z2, hz2⟩ : ∃ z, jA xs k = z := ⟨_, rfl⟩
        obtain ⟨y1, hy1⟩ : ∃ z, jO ys k = z := ⟨_, rfl⟩
        obtain ⟨y2, hy2⟩ : ∃ z, jA ys k = z := ⟨_, rfl⟩
        rw [hz1] at c0
        rw [hz2] at c1
        rw [hy1] at d0
        rw [hy2] at d1
        have hz : ith xs k = (z1, z2) := by rw [← hz1, ← hz2]; rfl
        have hy : ith ys k = (y1, y2) := by rw [← hy1, ← hy2]; rfl
        have hN := neq_tim z1 z2 y1 y2
        have hG := guard_tim .neq
        by_cases he : (z1, z2) = (y1, y2)
        · have e1 : z1 = y1 := congrArg Prod.fst he
          have e2 : z2 = y2 := congrArg Prod.snd he
          have hall2 : Hid (∀ j, j < k + 1 → ith xs j = ith ys j) := Lib.hid fun j hj => by
            by_cases e : j = k
            · subst e; rw [hz, hy, he]
            · exact hall.out j (by omega)
          subst e1 e2
          simp only [beq_self_eq_true, Bool.and_self, Bool.not_true] at hN
          clear he hz hy hz1 hz2 hy1 hy2
          go_wp2
          go_quiet (fail)
          go_wp2
          go_roundw
          case rel => exact ⟨k + 1, by omega, by go_num, ⟨_, rfl⟩, hall2⟩
          case measure => simp [intOf]; omega
        · have hs : (z1 == y1 && z2 == y2) = false := by
            by_cases e1 : z1 = y1
            · by_cases e2 : z2 = y2
              · exact absurd (by rw [e1, e2]) he
              · simp [e2]
            · simp [e1]
          rw [hs] at hN
          simp only [Bool.not_false] at hN
          rw [sameT_at (a := xs) (b := ys) k (by rw [hz, hy]; exact he)]
          clear he hs hz hy hz1 hz2 hy1 hy2
          go_wp2
          go_quiet (fail)
          go_wp2
          go_ret
          exact ⟨rfl, drewN_two w d nq⟩
      · obtain rfl : n = k := by omega
        have HF := Lib.hid (sameT_all LX.out LY.out hall.out)
        go_wp2
        go_ret
        exact ⟨ret_bool HF.out.symm, d, rfl⟩
  · rw [sameT_len (by rw [LX.out, LY.out]; exact hn)]
    have hne : ((n : Int) != (n' : Int)) = true := by simp; omega
    go_enter Try.func17, Try.ntmps17
    go_wp2
    go_ret
    exact ⟨rfl, 0, rfl⟩

set_option maxHeartbeats 1000000 in
theorem equalJ_any (A A' : Option Addr) (n c n' c' : Nat) (xs ys : List Tm) (w : World) (hx : Tms w A n c xs) (hy : Tms w A' n' c' ys) :
    Calls Try.prog 33 #[.slice A n c, .slice A' n' c'] w (SameTA (sameT xs ys) w) := by
  have HX := Lib.hid hx
  have HY := Lib.hid hy
  have hn0 := hx.2.1
  have LX := Lib.hid hx.1
  have LY := Lib.hid hy.1
  clear hx hy
  by_cases hn : n = n'
  · subst hn
    go_enter Try.func33, Try.ntmps33
    go_wp2
    go_loopw [13] (fun t wr => ∃ k : Nat, k ≤ n ∧ t = .int .i64 k ∧ (∃ d, wr = w.drewN d) ∧ Hid (∀ j, j < k → ith xs j = ith ys j)) (fun t _ => n - (intOf t).toNat)
    case atStart => exact ⟨0, Nat.zero_le _, rfl, ⟨0, rfl⟩, fun j hj => by omega⟩
    case round =>
      obtain ⟨k, hk, rfl, ⟨d, rfl⟩, hall⟩ := hrel
      by_cases hlt : k < n
      · obtain ⟨bL, oL, rfl, hbL, c0, c1⟩ := HX.out.at_ hlt
        obtain ⟨bR, oR, rfl, hbR, d0, d1⟩ := HY.out.at_ hlt
        obtain ⟨z1, hz1⟩ : ∃ z, jO xs k = z := ⟨_, rfl⟩
        obtain ⟨z2, hz2⟩ : ∃ z, jA xs k = z := ⟨_, rfl⟩
        obtain ⟨y1, hy1⟩ : ∃ z, jO ys k = z := ⟨_, rfl⟩
        obtain ⟨y2, hy2⟩ : ∃ z, jA ys k = z := ⟨_, rfl⟩
        rw [hz1] at c0
        rw [hz2] at c1
        rw [hy1] at d0
        rw [hy2] at d1
        have hz : ith xs k = (z1, z2) := by rw [← hz1, ← hz2]; rfl
        have hy : ith ys k = (y1, y2) := by rw [← hy1, ← hy2]; rfl
        have hN := neq_tim z1 z2 y1 y2
        have hG := guard_tim .neq
        by_cases he : (z1, z2) = (y1, y2)
        · have e1 : z1 = y1 := congrArg Prod.fst he
          have e2 : z2 = y2 := congrArg Prod.snd he
          have hall2 : Hid (∀ j, j < k + 1 → ith xs j = ith ys j) := Lib.hid fun j hj => by
            by_cases e : j = k
            · subst e; rw [hz, hy, he]
            · exact hall.out j (by omega)
          subst e1 e2
          simp only [beq_self_eq_true, Bool.and_self, Bool.not_true] at hN
          clear he hz hy hz1 hz2 hy1 hy2
          go_wp2
          go_quiet (fail)
          go_wp2
          go_roundw
          case rel => exact ⟨k + 1, by omega, by go_num, ⟨_, rfl⟩, hall2⟩
          case measure => simp [intOf]; omega
        · have hs : (z1 == y1 && z2 == y2) = false := by
            by_cases e1 : z1 = y1
            · by_cases e2 : z2 = y2
              · exact absurd (by rw [e1, e2]) he
              · simp [e2]
            · simp [e1]
          rw [hs] at hN
          simp only [Bool.not_false] at hN
          rw [sameT_at (a := xs) (b := ys) k (by rw [hz, hy]; exact he)]
          clear he hs hz hy hz1 hz2 hy1 hy2
          go_wp2
          go_quiet (fail)
          go_wp2
          go_ret
          exact ⟨rfl, drewN_two w d nq⟩
      · obtain rfl : n = k := by omega
        have HF := Lib.hid (sameT_all LX.out LY.out hall.out)
        go_wp2
        go_ret
        exact ⟨ret_bool HF.out.symm, d, rfl⟩
  · rw [sameT_len (by rw [LX.out, LY.out]; exact hn)]
    have hne : ((n : Int) != (n' : Int)) = true := by simp; omega
    go_enter Try.func33, Try.ntmps33
    go_wp2
    go_ret
    exact ⟨rfl, 0, rfl⟩


theorem drew_below (w : World) (k : Nat) : Below w.heap.size w (w.drewN k) := below_drewN (Below.refl _ _) k
theorem psame_any (A A' : Option Addr) (n c n' c' : Nat) (xs ys : List Tm) (w : World) (hx : Tms w A n c xs) (hy : Tms w A' n' c' ys) :
    Calls Try.prog 21 #[.slice A n c, .slice A' n' c'] w (SameTA (sameT xs ys) w) := by
  have HS := Lib.hid (equalJ_any A A' n c n' c' xs ys w hx hy)
  clear hx hy
  go_enter Try.func21, Try.ntmps21
  go_wp2_with fail
  refine HS.out.mono ?_
  rintro e w1 ⟨rfl, b1⟩
  have B1 := Lib.hid b1
  clear b1
  go_wp2_with fail
  go_ret
  exact ⟨rfl, B1.out⟩

def hasB (l : List Int) (x : Int) : Bool := decide (x ∈ l)
theorem hasB_yes {l : List Int} {x : Int} (h : x ∈ l) : hasB l x = true := decide_eq_true h
theorem hasB_no {l : List Int} {x : Int} (h : x ∉ l) : hasB l x = false := decide_eq_false h
theorem hasB_iff {l : List Int} {x : Int} : hasB l x = true ↔ x ∈ l := decide_eq_true_iff
theorem mem_nth {l : List Int} {x : Int} : x ∈ l ↔ ∃ j, j < l.length ∧ nth l j = x := by
  rw [List.mem_iff_getElem]
  exact ⟨fun ⟨j, h, e⟩ => ⟨j, h, by rw [nth_get h]; exact e⟩, fun ⟨j, h, e⟩ => ⟨j, h, by rw [nth_get h] at e; exact e⟩⟩
/-- How long a slice of the call's own may be. -/
theorem OwnI.cap {E : TypeId} {w : World} {base : Nat} {A : Option Addr} {c : Nat} {zs : List Int} (h : OwnI E w base A c zs) : zs.length ≤ c ∧ c ≤ 9223372036854775807 := by
  rcases h.2.2.2 with ⟨e, h0⟩ | ⟨g, cap, cur, e, _, _, hc, hm, _⟩
  · injection e with _ e2 e3
    omega
  · injection e with _ _ e3
    subst e3
    unfold maxLen at hm
    omega
theorem OwnI.intsN {E : TypeId} {w : World} {base : Nat} {A : Option Addr} {c n : Nat} {zs : List Int} (h : OwnI E w base A c zs) (hl : zs.length = n) : Ints w A n zs := hl ▸ h.ints
theorem Ints.at_ {w : World} {A : Option Addr} {n : Nat} {zs : List Int} (h : Ints w A n zs) {k : Nat} (hk : k < n) : ∃ b o, A = some ⟨b, o, none⟩ ∧ b < w.heap.size ∧ w.cell? ⟨b, o + k, none⟩ = some (.int .i64 (nth zs k)) := by
  obtain ⟨b, o, e, hb, hc⟩ := h.2.2.2 (by omega)
  exact ⟨b, o, e, hb, hc k hk⟩
theorem Ints.fit {w : World} {A : Option Addr} {n : Nat} {zs : List Int} (h : Ints w A n zs) {k : Nat} (hk : k < n) : Fit (nth zs k) := by
  have hl := h.1
  rw [nth_get (by omega)]
  exact h.2.2.1 _ (List.getElem_mem _)

theorem below_app {B : Nat} {w w' : World} {A : Option Addr} {n c : Nat} {W : World} {t : TypeId} {xs : List Int} (hb : Below B W w) (ho : OwnI t w B A c xs) (hg : w.grownBy w' (Value.slice A n c).ownBlock) (hs : B ≤ w.heap.size := by first | exact Nat.le_refl _ | omega) : Below B W w' :=
  hb.grown hg hs (by intro k hk; exact ho.block k hk)

set_option maxHeartbeats 400000 in
theorem rhas_any (A : Option Addr) (n c : Nat) (l : List Int) (x : Int) (w : World) (hx : Ints w A n l) :
    Calls Try.prog 27 #[.slice A n c, .int .i64 x] w (RetB (.bool (hasB l x)) w) := by
  have HX := Lib.hid hx
  have LX := Lib.hid hx.1
  have hn := hx.2.1
  clear hx
  go_enter Try.func27, Try.ntmps27
  go_wp2
  go_loopw [9] (fun t wr => ∃ k : Nat, k ≤ n ∧ t = .int .i64 k ∧ Hid (Below w.heap.size w wr ∧ ∀ j, j < k → nth l j ≠ x)) (fun t _ => n - (intOf t).toNat)
  case atStart => exact ⟨0, Nat.zero_le _, rfl, Lib.hid ⟨Below.refl _ _, fun j hj => by omega⟩⟩
  case round =>
    rename World => wr
    obtain ⟨k, hk, rfl, OK⟩ := hrel
    by_cases hkn : k < n
    · obtain ⟨b, o, rfl, hb, hc⟩ := (HX.out.below OK.out.1).at_ hkn
      obtain ⟨z, hz⟩ : ∃ z, nth l k = z := ⟨_, rfl⟩
      rw [hz] at hc
      by_cases he : z = x
      · have t0 : (z == x) = true := by simpa using he
        have HF := Lib.hid (hasB_yes (mem_nth.2 ⟨k, by rw [LX.out]; exact hkn, hz.trans he⟩))
        have HB := Lib.hid OK.out.1
        clear he hz OK
        go_wp2
        go_ret
        exact RetB.of (ret_bool HF.out.symm) HB.out
      · have t0 : (z == x) = false := by simpa using he
        have OK2 : Hid (Below w.heap.size w wr ∧ ∀ j, j < k + 1 → nth l j ≠ x) := Lib.hid ⟨OK.out.1, fun i hi => by
          by_cases e : i = k
          · subst e; rw [hz]; exact he
          · exact OK.out.2 i (by omega)⟩
        clear he hz OK
        go_wp2
        go_roundw
        case rel => exact ⟨k + 1, by omega, by go_num, OK2⟩
        case measure => simp [intOf]; omega
    · obtain rfl : n = k := by omega
      have HF := Lib.hid (hasB_no (l := l) (x := x) (fun q => by
        obtain ⟨j, hj, e⟩ := mem_nth.1 q
        exact OK.out.2 j (by have := LX.out; omega) e))
      have HB := Lib.hid OK.out.1
      clear OK
      go_wp2
      go_ret
      exact RetB.of (ret_bool HF.out.symm) HB.out

set_option maxHeartbeats 400000 in
theorem rsame01_any (A A' : Option Addr) (n c n' c' : Nat) (xs ys : List Int) (w : World) (hx : Ints w A n xs) (hy : Ints w A' n' ys) :
    Calls Try.prog 18 #[.slice A n c, .slice A' n' c'] w (RetB (.bool (sameB xs ys)) w) := by
  obtain ⟨lx, bx, _, cx⟩ := hx
  obtain ⟨ly, by_, _, cy⟩ := hy
  by_cases hn : n = n'
  · subst hn
    have CX := Lib.hid cx
    have CY := Lib.hid cy
    have LX := Lib.hid lx
    have LY := Lib.hid ly
    clear cx cy lx ly
    go_enter Try.func18, Try.ntmps18
    go_wp2
    go_loopw [13] (fun t wr => ∃ k : Nat, k ≤ n ∧ t = .int .i64 k ∧ (∃ d, wr = w.drewN d) ∧ Hid (∀ j, j < k → nth xs j = nth ys j)) (fun t _ => n - (intOf t).toNat)
    case atStart => exact ⟨0, Nat.zero_le _, rfl, ⟨0, rfl⟩, fun j hj => by omega⟩
    case round =>
      obtain ⟨k, hk, rfl, ⟨d, rfl⟩, hall⟩ := hrel
      by_cases hlt : k < n
      · obtain ⟨b, o, rfl, hb, hc⟩ := CX.out (by omega)
        obtain ⟨b', o', rfl, hb', hc'⟩ := CY.out (by omega)
        have c1 := hc k hlt
        have c2 := hc' k hlt
        clear hc hc'
        by_cases he : nth xs k = nth ys k
        · have hs : (nth xs k != nth ys k) = false := by rw [he]; simp
          go_wp2
          go_quiet (fail)
          go_wp2
          go_roundw
          case rel => exact ⟨k + 1, by omega, by go_num, ⟨_, rfl⟩, fun j hj => by rcases Nat.lt_or_ge j k with h | h; exact hall j h; rwa [show j = k from by omega]⟩
          case measure => simp [intOf]; omega
        · have hs : (nth xs k != nth ys k) = true := by simpa using he
          have HF := Lib.hid (sameB_at k he)
          clear he
          go_wp2
          go_quiet (fail)
          go_wp2
          go_ret
          exact RetB.of (ret_bool HF.out.symm) (below_drewN (below_drewN (Below.refl _ _) d) _)
      · have : k = n := by omega
        subst this
        have HF := Lib.hid (sameB_all LX.out LY.out hall)
        go_wp2
        go_ret
        exact RetB.of (ret_bool HF.out.symm) (below_drewN (Below.refl _ _) d)
  · have hne : ((n : Int) != (n' : Int)) = true := by simp; omega
    have hf : sameB xs ys = false := sameB_len (by omega)
    have HF := Lib.hid hf
    clear hf lx ly
    go_enter Try.func18, Try.ntmps18
    go_wp2
    go_ret
    exact RetB.of (ret_bool HF.out.symm) (Below.refl _ _)

theorem OwnT.made (E : TypeId) (w : World) : OwnT E (w.alloc (.cells #[] E)) w.heap.size (some ⟨w.heap.size, 0, none⟩) 0 [] :=
  ⟨by simp, by simp, World.ownsRow_made w #[] 0 (Nat.le_refl _) (by unfold maxLen; omega) (by simp)⟩
theorem below_grown1 {w w' : World} {t : TypeId} (h : (w.alloc (.cells #[] t)).grownBy w' (Value.slice (some ⟨w.heap.size, 0, none⟩) 0 0).ownBlock) : Below w.heap.size w w' :=
  ((Below.refl w.heap.size w).alloc (Nat.le_refl _) _).grown h (by simp) (by intro k hk; simp [Value.ownBlock] at hk; omega)
theorem Tms.alloc {w : World} {A : Option Addr} {n c : Nat} {p : List Tm} (h : Tms w A n c p) (o : Obj) : Tms (w.alloc o) A n c p := h.below ((Below.refl _ _).alloc (Nat.le_refl _) o)

theorem clone_any (A : Option Addr) (n c : Nat) (l : List Tm) (w : World) (hx : Tms w A n c l) (hn : n ≤ 1000) :
    Calls Try.prog 25 #[.slice A n c] w (NewT l w) := by
  have q : ∀ (w : World) (a : Option Addr) (n c n' c' : Nat), (binOp .eql 22 (.slice a n c) (.slice none n' c')).run Try.prog w = .ok (.bool a.isNone) w := fun w a n c n' c' => Lib.run_eql_slice_nil w _ _ a n c n' c' Try.underlying22
  have HX := Lib.hid hx
  cases A with
  | none =>
    have h0 : n = 0 := by
      rcases Nat.eq_zero_or_pos n with h | h
      · exact h
      · obtain ⟨b, o, e, _⟩ := hx.2.2.2 h
        cases e
    have HG : Hid (l = []) := Lib.hid (List.eq_nil_of_length_eq_zero (by rw [hx.1]; exact h0))
    clear hx
    subst h0
    go_enter Try.func25, Try.ntmps25
    go_wp2
    go_ret
    have := HG.out
    subst this
    exact ⟨none, 0, rfl, OwnT.nil_ _ _ _, Below.refl _ _⟩
  | some a =>
    clear hx
    go_enter Try.func25, Try.ntmps25
    go_wp2_with (at_builtin; refine wpList_append_tms _ rfl _ _ 22 rfl 37 _ rfl Try.underlying22 infoT w.heap.size (some ⟨w.heap.size, 0, none⟩) 0 [] 0 rfl rfl (OwnT.made _ _) (some a) n c l rfl (HX.out.alloc _) (by simp; omega) (by simp) ?_; intro A' c' w' ho hg; rw [List.nil_append] at ho ⊢; have HO := Lib.hid ho; have HB := Lib.hid (below_grown1 hg); clear ho hg)
    go_ret
    exact ⟨A', c', rfl, HO.out, HB.out⟩

theorem OwnT.cap {E : TypeId} {w : World} {base : Nat} {A : Option Addr} {c : Nat} {zs : List Tm} (h : OwnT E w base A c zs) : zs.length ≤ c ∧ c ≤ 9223372036854775807 := h.tms.2.1
theorem below_appT {B : Nat} {w w' : World} {A : Option Addr} {n c : Nat} {W : World} {t : TypeId} {xs : List Tm} (hb : Below B W w) (ho : OwnT t w B A c xs) (hg : w.grownBy w' (Value.slice A n c).ownBlock) (hs : B ≤ w.heap.size := by first | exact Nat.le_refl _ | omega) : Below B W w' :=
  hb.grown hg hs (by intro k hk; exact ho.block k hk)

end Go.Proofs.Ytkffmohgnbnhkaa

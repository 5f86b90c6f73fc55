/-
  Layer 9, the program: slices.Repeat of one descriptor, New, Waits.
-/
import Derived.Test.YtndbaoiabmldgaaPc
import Derived.Shelf.Bits.Mul64
import Derived.Laws.CopyRow
import Derived.OwnWalk
namespace Go.Proofs.Ytndbaoiabmldgaa
open Go.RowKit Go.Shelf

def mul_ren : Go.Shelf.Ren := ⟨fun | 212 => 43 | 263 => 44 | 264 => 45 | n => n, fun | 0 => 0 | 3 => 3 | 4 => 4 | 46 => 64 | 51 => 67 | 53 => 70 | 146 => 68 | 147 => 65 | 148 => 71 | n => n, fun | n => n⟩
theorem mulL : Go.Proofs.Lays.n212 Try.prog mul_ren := {
  mixed := by kernel_rfl
  f212 := Try.func43.trans (congrArg some (by kernel_rfl))
  f263 := Try.func44.trans (congrArg some (by kernel_rfl))
  f264 := Try.func45.trans (congrArg some (by kernel_rfl))
  t46 := Try.underlying64
  a46 := Try.isAgg64
  z46 := Try.sizeOf64
  v46 := Try.zeroValue64
  t51 := Try.underlying67
  a51 := Try.isAgg67
  z51 := Try.sizeOf67
  v51 := Try.zeroValue67
  t53 := Try.underlying70
  a53 := Try.isAgg70
  z53 := Try.sizeOf70
  v53 := Try.zeroValue70
  t146 := Try.underlying68
  a146 := Try.isAgg68
  z146 := Try.sizeOf68
  v146 := Try.zeroValue68
  t148 := Try.underlying71
  a148 := Try.isAgg71
  z148 := Try.sizeOf71
  v148 := Try.zeroValue71 }
theorem mul_any (m : Nat) (hm : m ≤ 16) (w : World) : Calls Try.prog 43 #[.int .u64 1, .int .u64 (m : Int)] w fun e w' => e = .returned (.tuple #[.int .u64 0, .int .u64 (m : Int)]) ∧ w' = w := by
  have h := Any.bits_Mul mulL 1 m (by omega) (by omega) w
  rw [show 1 * m / 18446744073709551616 = 0 by omega, show 1 * m % 18446744073709551616 = m by omega] at h
  exact h

/-- copy, of elements of sz cells, into a block that is known whole. -/
theorem run_copy_rowN {P : Program} (w : World) (dT sT ty elem : TypeId) (sz g o dLen dCap : Nat) (a : Addr) (sLen sCap : Nat) (cur : Array Value) (t : TypeId) (cs : List Value)
    (hu : P.underlying dT = some (.slice elem)) (hs : (P.info? elem).map (·.size) = some sz)
    (hg : w.heap[g]? = some (.cells cur t (0, 0))) (hn : cs.length = Nat.min sLen dLen * sz)
    (hsrc : ∀ j v, cs[j]? = some v → w.cell? (a.add j) = some v) (hfit : o + cs.length ≤ cur.size) (h1 : ∀ v ∈ cs, v.oneCell' = true) :
    (Builtin.copy_ #[dT, sT] ty #[.slice (some ⟨g, o, none⟩) dLen dCap, .slice (some a) sLen sCap]).run P w =
      .ok (goInt (Nat.min sLen dLen)) (w.setRow g (cur.toList.take o ++ cs ++ cur.toList.drop (o + cs.length)).toArray) := by
  have hl := run_loadCells_list (P := P) w a cs hsrc
  have hst := run_storeCells_at P g o t cs 0 cur w hg (by simpa using hfit) h1
  cases hq : P.info? elem with
  | none => simp [hq] at hs
  | some i =>
    have hi : i.size = sz := by simpa [hq] using hs
    simp [Builtin.copy_, run_underlying hu, Builtin.lenOf, Builtin.firstCells, sizeOf, typeInfo, hq, hi, ← hn, hl, hst]

abbrev zerD : Ds := (false, false, 0)
/-- m descriptors, of which the first k are not Open, the others nothing yet. -/
def repL (m k : Nat) : List Ds := List.replicate k nilD ++ List.replicate (m - k) zerD
theorem repL_len {m k : Nat} (h : k ≤ m) : (repL m k).length = m := by simp [repL]; omega
theorem repL_take {m k c : Nat} (h : c ≤ k) : (repL m k).take c = List.replicate c nilD := by
  unfold repL
  rw [List.take_append_of_le_length (by simpa using h), List.take_replicate, Nat.min_eq_left h]
theorem repL_drop {m k c : Nat} : (repL m k).drop (k + c) = List.replicate (m - (k + c)) zerD := by
  unfold repL
  rw [List.drop_append, List.length_replicate, List.drop_eq_nil_of_le (by simp), List.nil_append, List.drop_replicate]
  congr 1
  omega
theorem cellsD_take : ∀ (p : List Ds) (k : Nat), (cellsD p).take (k * 3) = cellsD (p.take k)
  | [], _ => by simp [cellsD]
  | x :: p, 0 => by simp [cellsD]
  | x :: p, k + 1 => by
    have ih := cellsD_take p k
    have e : ∀ q, cellsD (x :: q) = [Value.bool x.1, .bool x.2.1, .int .i64 x.2.2] ++ cellsD q := fun q => by simp [cellsD, cells3]
    rw [List.take_succ_cons, e, e, ← ih, show (k + 1) * 3 = k * 3 + 3 by omega]
    simp
theorem cellsD_drop : ∀ (p : List Ds) (k : Nat), (cellsD p).drop (k * 3) = cellsD (p.drop k)
  | [], _ => by simp [cellsD]
  | x :: p, 0 => by simp [cellsD]
  | x :: p, k + 1 => by
    have ih := cellsD_drop p k
    have e : cellsD (x :: p) = [Value.bool x.1, .bool x.2.1, .int .i64 x.2.2] ++ cellsD p := by simp [cellsD, cells3]
    rw [List.drop_succ_cons, e, ← ih, show (k + 1) * 3 = k * 3 + 3 by omega]
    simp
theorem repL_step {m k c : Nat} :
    (cellsD (repL m k)).take (k * 3) ++ cellsD (List.replicate c nilD) ++ (cellsD (repL m k)).drop (k * 3 + (cellsD (List.replicate c nilD)).length) = cellsD (repL m (k + c)) := by
  rw [cellsD_len, List.length_replicate, show k * 3 + c * 3 = (k + c) * 3 by omega, cellsD_take, cellsD_drop, ← cellsD_app, ← cellsD_app, repL_take (Nat.le_refl k), repL_drop]
  congr 1
  unfold repL
  rw [List.replicate_append_replicate]
/-- The row as it grows. -/
def RepW (w : World) (g m k : Nat) : Prop := w.heap[g]? = some (.cells (cellsD (repL m k)).toArray 34 (0, 0))
theorem RepW.lt {w : World} {g m k : Nat} (h : RepW w g m k) : g < w.heap.size := (Array.getElem?_eq_some_iff.1 h).1
theorem RepW.below {w w' : World} {g m k : Nat} (h : RepW w g m k) (hb : Below w.heap.size w w') : RepW w' g m k := (hb.block g h.lt).trans h
theorem RepW.copy {w : World} {g m k c : Nat} (h : RepW w g m k) (hk : k + c ≤ m) (sT ty : TypeId) (a : Addr) (dLen dCap sLen sCap : Nat) (hc : Nat.min sLen dLen = c)
    (hsrc : ∀ j v, (cellsD (List.replicate c nilD))[j]? = some v → w.cell? (a.add j) = some v) :
    ∃ w', (Builtin.copy_ #[22, sT] ty #[.slice (some ⟨g, k * 3, none⟩) dLen dCap, .slice (some a) sLen sCap]).run Try.prog w = .ok (goInt c) w' ∧ RepW w' g m (k + c) ∧ (∀ B w0, Below B w0 w → B ≤ g → Below B w0 w') := by
  have hrun := run_copy_rowN (P := Try.prog) w 22 sT ty 34 3 g (k * 3) dLen dCap a sLen sCap _ 34 (cellsD (List.replicate c nilD)) Try.underlying22 (by kernel_rfl) h
    (by rw [cellsD_len, List.length_replicate, hc]) hsrc (by rw [cellsD_len, List.length_replicate]; simp only [List.size_toArray]; rw [cellsD_len, repL_len (by omega)]; omega) (cellsD_one _)
  rw [hc] at hrun
  refine ⟨_, hrun, ?_, fun B w0 hb hB => below_row hb hB _⟩
  have e := repL_step (m := m) (k := k) (c := c)
  unfold RepW
  rw [setRow_heap w g _ _ _ _ h, e]
theorem RepW.src {w : World} {g m k c : Nat} (h : RepW w g m k) (hc : c ≤ k) : ∀ j v, (cellsD (List.replicate c nilD))[j]? = some v → w.cell? ((⟨g, 0, none⟩ : Addr).add j) = some v := by
  intro j v hv
  have e : cellsD (repL m k) = cellsD (List.replicate c nilD) ++ cellsD ((repL m k).drop c) := by rw [← cellsD_app, ← repL_take (m := m) hc, List.take_append_drop]
  have hadd : (⟨g, 0, none⟩ : Addr).add j = ⟨g, j, none⟩ := by unfold Addr.add; split <;> simp_all
  have hj := (List.getElem?_eq_some_iff.1 hv).1
  rw [hadd, cell_of_row w g j _ _ _ h]
  rw [List.getElem?_toArray, e, List.getElem?_append_left hj]
  exact hv
theorem RepW.own {w : World} {g m base : Nat} (h : RepW w g m m) (hm : m ≤ 16) (hb : base ≤ g) : OwnD 34 w base (some ⟨g, 0, none⟩) m (List.replicate m nilD) := by
  have e : repL m m = List.replicate m nilD := by simp [repL]
  unfold RepW at h
  rw [e] at h
  refine ⟨by simp; omega, fun x hx => by rw [List.eq_of_mem_replicate hx]; exact (show Fit (-1) by decide), ?_⟩
  refine ⟨by rw [cellsD_len], .inr ⟨g, m, _, by rw [List.length_replicate], hb, h, by simp, by unfold maxLen; omega, by simp only [List.size_toArray]; rw [cellsD_len, List.length_replicate], ?_⟩⟩
  rw [List.length_replicate]
  rw [List.take_of_length_le (by rw [cellsD_len, List.length_replicate]; omega)]
theorem made_zero (m : Nat) : (madeCells (Value.agg #[.bool false, .bool false, .int .i64 0]).cells (m * 3)) = (cellsD (repL m 0)).toArray := by
  have hz : (Value.agg #[.bool false, .bool false, .int .i64 0]).cells = #[.bool false, .bool false, .int .i64 0] := by simp [Value.cells]
  have e : repL m 0 = List.replicate m zerD := by simp [repL]
  rw [hz, e]
  apply Array.ext
  · rw [size_madeCells]; simp only [List.size_toArray]; rw [cellsD_len, List.length_replicate]
  · intro i h1 h2
    rw [size_madeCells] at h1
    have hj : i / 3 < (List.replicate m zerD).length := by rw [List.length_replicate]; omega
    have hd : dth (List.replicate m zerD) (i / 3) = zerD := by rw [dth_get hj, List.getElem_replicate]
    obtain ⟨d0, d1, d2⟩ := cellsD_at (List.replicate m zerD) hj
    rw [hd] at d0 d1 d2
    have hr : i % 3 = 0 ∨ i % 3 = 1 ∨ i % 3 = 2 := by omega
    have hl : (madeCells #[Value.bool false, .bool false, .int .i64 0] (m * 3))[i] = #[Value.bool false, .bool false, .int .i64 0][i % 3]! := by simp [madeCells]
    rw [hl]
    have hlt : i < (cellsD (List.replicate m zerD)).length := by rw [cellsD_len, List.length_replicate]; omega
    have g : (cellsD (List.replicate m zerD)).toArray[i] = (cellsD (List.replicate m zerD))[i] := by simp
    rw [g]
    rcases hr with hr | hr | hr
    · rw [show i / 3 * 3 = i by omega, List.getElem?_eq_getElem hlt] at d0
      rw [hr, Option.some.inj d0]; rfl
    · rw [show i / 3 * 3 + 1 = i by omega, List.getElem?_eq_getElem hlt] at d1
      rw [hr, Option.some.inj d1]; rfl
    · rw [show i / 3 * 3 + 2 = i by omega, List.getElem?_eq_getElem hlt] at d2
      rw [hr, Option.some.inj d2]; rfl

theorem below_grown0 {w w' : World} (h : w.grownBy w' none) : Below w.heap.size w w' := (Below.refl _ _).grown h (Nat.le_refl _) (by simp)
set_option maxRecDepth 100000 in
set_option maxHeartbeats 4000000 in
theorem repeat_any (A : Option Addr) (c0 m : Nat) (w : World) (hx : Dss w A 1 c0 [nilD]) (hm : m ≤ 16) :
    Calls Try.prog 37 #[.slice A 1 c0, .int .i64 (m : Int)] w (NewD (List.replicate m nilD) w) := by
  obtain ⟨b, o, rfl, hb, _⟩ := hx.2.2.2 (by omega)
  have HX := Lib.hid hx
  have hnc := hx.2.1
  have HMM := Lib.hid hm
  have t0 : decide ((m : Int) < 0) = false := decide_eq_false (by omega)
  have hw1 : IntKind.u64.wrap (m : Int) = (m : Int) := by rw [IntKind.wrap_u64]; omega
  have hw2 : IntKind.i64.wrap (m : Int) = (m : Int) := by rw [IntKind.wrap_i64]; omega
  have t1 : decide (9223372036854775807 < (m : Int)) = false := decide_eq_false (by omega)
  obtain ⟨i0, hi0, hz0, hz1, hz2⟩ := info_parts infoD
  have HI := Lib.hid hi0
  have HZ0 := Lib.hid hz0
  have HZ1 := Lib.hid hz1
  have HZ2 := Lib.hid hz2
  have hp : (List.replicate m nilD).length = m := List.length_replicate
  obtain ⟨p, hpp⟩ : ∃ p, List.replicate m nilD = p := ⟨_, rfl⟩
  rw [hpp] at hp
  rw [hpp]
  have HP := Lib.hid hp
  have HPP := Lib.hid hpp
  clear hx hb hi0 hz0 hz1 hz2 hp hpp
  go_enter Try.func37, Try.ntmps37
  go_wp2_with fail
  refine (mul_any m hm _).mono ?_
  rintro e w1 ⟨rfl, rfl⟩
  obtain ⟨gr, hgr⟩ : ∃ g, w1.heap.size = g := ⟨_, rfl⟩
  have HGR := Lib.hid hgr
  clear hgr
  go_upto_region 7 with (at_make; refine wpList_make_full _ rfl _ _ 22 rfl w1.heap.size 34 i0 _ 3 Try.underlying22 HI.out HZ0.out HZ1.out .i64 .i64 _ _ m rfl rfl rfl rfl (by rw [HZ2.out]; omega) (by unfold maxLen; omega) (Nat.le_refl _) ?_; intro w3 hown hgrow; have HO := Lib.hid hown; have HG := Lib.hid (below_grown0 hgrow); clear hown hgrow)
  try rw [HGR.out]
  have RW := Lib.hid (show RepW w3 gr m 0 by
    have h := HO.out
    rw [HGR.out] at h
    rcases h.2 with ⟨h1, h2⟩ | ⟨g, cap, cur, e, hb, hh, hc, hmx, hs, ht⟩
    · cases h1
    · injection e with e1 _ e2
      injection e1 with e1
      injection e1 with e1 _ _
      subst e1 e2
      have hcur : cur.toList = (madeCells (Value.agg #[.bool false, .bool false, .int .i64 0]).cells (m * 3)).toList := by rw [← ht, List.take_of_length_le (by simp [hs])]
      have hcur2 : cur = (cellsD (repL m 0)).toArray := by rw [← made_zero m]; exact Array.ext' hcur
      unfold RepW
      rw [← hcur2]
      exact hh)
  clear HO HI HZ0 HZ1 HZ2
  have HX3 := Lib.hid (HX.out.below HG.out)
  obtain ⟨q, hq⟩ : ∃ q, min 1 m = q := ⟨_, rfl⟩
  have hqm : q ≤ m ∧ q ≤ 1 ∧ (q = 0 → m = 0) := by omega
  obtain ⟨U1, hrun, RW1, BW1⟩ := RW.out.copy (c := q) (by omega) 22 3 ⟨b, o, none⟩ m m 1 c0 hq (by
    intro j v hv
    have hq2 : q = 0 ∨ q = 1 := by omega
    rcases hq2 with rfl | rfl
    · cases hv
    · exact HX3.out.src rfl j v hv)
  simp only [Nat.zero_add, Nat.zero_mul] at RW1 hrun
  have RW1 := Lib.hid RW1
  have BF := Lib.hid (BW1 _ _ HG.out (by have := HGR.out; omega))
  clear BW1 RW hq
  go_wp2_with fail
  clear hrun
  go_loopw [8] (fun t wr => ∃ k : Nat, k ≤ m ∧ (k = 0 → m = 0) ∧ t = .int .i64 k ∧ Hid (RepW wr gr m k) ∧ Hid (Below w1.heap.size w1 wr)) (fun t _ => m - (intOf t).toNat)
  case atStart => exact ⟨q, hqm.1, hqm.2.2, rfl, RW1, BF⟩
  case round =>
    clear RW1 BF HX3 HG
    rename World => wr
    obtain ⟨k, hk, hk1, rfl, RW, BW⟩ := hrel
    by_cases hkn : k < m
    · obtain ⟨c, hc⟩ : ∃ c, min k (m - k) = c := ⟨_, rfl⟩
      have hcb : 1 ≤ c ∧ k + c ≤ m ∧ c ≤ k := by omega
      have hwk : IntKind.i64.wrap ((k : Int) + c) = (k : Int) + c := by rw [IntKind.wrap_i64]; omega
      go_wp2_with fail
      refine wp_region_held (S := fun _ => True) (by kernel_rfl) ?_
      change wpAnyH _ _ _ _ _ _ _ _ (World.drew wr)
      have RW0 := Lib.hid (RW.out.below (Below.refl _ _).drew)
      have BW0 := Lib.hid (BW.out.drew)
      generalize wr.drew = U0 at RW0 BW0 ⊢
      clear RW BW
      have hS0 : True := trivial
      refine take_at (i := 0) (d := 38) (v := .int .i64 (k : Int)) rfl rfl (by kernel_rfl) (by kernel_rfl) (by kernel_rfl) (fun _ _ _ h => h) (.inl ⟨by kernel_rfl, fun U hU => by go_simp⟩) hS0 ?_
      simp only [Act.put, List.setIfInBounds_toArray, List.set_cons_zero, List.set_cons_succ]
      refine take_at (i := 1) (d := 39) (v := .slice (some ⟨gr, 0, none⟩) m m) rfl rfl (by kernel_rfl) (by kernel_rfl) (by kernel_rfl) (fun _ _ _ h => h) (.inl ⟨by kernel_rfl, fun U hU => by go_simp⟩) hS0 ?_
      simp only [Act.put, List.setIfInBounds_toArray, List.set_cons_zero, List.set_cons_succ]
      refine take_at (i := 2) (d := 40) (v := .int .i64 (k : Int)) rfl rfl (by kernel_rfl) (by kernel_rfl) (by kernel_rfl) (fun _ _ _ h => h) (.inl ⟨by kernel_rfl, fun U hU => by go_simp⟩) hS0 ?_
      simp only [Act.put, List.setIfInBounds_toArray, List.set_cons_zero, List.set_cons_succ]
      refine take_at (i := 3) (d := 41) (v := .slice (some ⟨gr, k * 3, none⟩) (m - k) (m - k)) rfl rfl (by kernel_rfl) (by kernel_rfl) (by kernel_rfl) (fun _ _ _ h => h) (.inl ⟨by kernel_rfl, fun U hU => by go_simp; omega⟩) hS0 ?_
      simp only [Act.put, List.setIfInBounds_toArray, List.set_cons_zero, List.set_cons_succ]
      refine take_at (i := 4) (d := 42) (v := .slice (some ⟨gr, 0, none⟩) m m) rfl rfl (by kernel_rfl) (by kernel_rfl) (by kernel_rfl) (fun _ _ _ h => h) (.inl ⟨by kernel_rfl, fun U hU => by go_simp⟩) hS0 ?_
      simp only [Act.put, List.setIfInBounds_toArray, List.set_cons_zero, List.set_cons_succ]
      refine take_at (i := 5) (d := 43) (v := .int .i64 (k : Int)) rfl rfl (by kernel_rfl) (by kernel_rfl) (by kernel_rfl) (fun _ _ _ h => h) (.inl ⟨by kernel_rfl, fun U hU => by go_simp⟩) hS0 ?_
      simp only [Act.put, List.setIfInBounds_toArray, List.set_cons_zero, List.set_cons_succ]
      refine take_at (i := 6) (d := 44) (v := .slice (some ⟨gr, 0, none⟩) k m) rfl rfl (by kernel_rfl) (by kernel_rfl) (by kernel_rfl) (fun _ _ _ h => h) (.inl ⟨by kernel_rfl, fun U hU => by go_simp⟩) hS0 ?_
      simp only [Act.put, List.setIfInBounds_toArray, List.set_cons_zero, List.set_cons_succ]
      obtain ⟨U1, hrun, RW1, BW1⟩ := RW0.out.copy (c := c) (by omega) 22 3 ⟨gr, 0, none⟩ (m - k) (m - k) k m hc (RW0.out.src (by omega))
      have RW1 := Lib.hid RW1
      have BW1 := Lib.hid (BW1 _ _ BW0.out (by have := HGR.out; omega))
      refine wpAnyH_all (rs := [7]) (by kernel_rfl) (by simp) ?_
      intro i hi
      simp only [List.mem_cons, List.not_mem_nil, or_false] at hi
      subst hi
      unfold wpOp
      go_simp
      left
      clear hrun
      refine take_at (i := 8) (d := 46) (v := .int .i64 ((k : Int) + c)) rfl rfl (by kernel_rfl) (by kernel_rfl) (by kernel_rfl) (fun _ _ _ h => h) (.inl ⟨by kernel_rfl, fun U hU => by go_simp⟩) hS0 ?_
      simp only [Act.put, List.setIfInBounds_toArray, List.set_cons_zero, List.set_cons_succ]
      refine take_at (i := 9) (d := 8) (v := .int .i64 ((k : Int) + c)) rfl rfl (by kernel_rfl) (by kernel_rfl) (by kernel_rfl) (fun _ _ _ h => h) (.inl ⟨by kernel_rfl, fun U hU => by go_simp⟩) hS0 ?_
      simp only [Act.put, List.setIfInBounds_toArray, List.set_cons_zero, List.set_cons_succ]
      refine wpAnyH_done (by kernel_rfl) ?_ _
      go_wp2_with fail
      go_roundw
      case rel => exact ⟨k + c, by omega, by omega, by go_num, RW1, BW1⟩
      case measure => simp [intOf]; omega
    · obtain rfl : m = k := by omega
      have OW := Lib.hid (RW.out.own (base := w1.heap.size) (by omega) (by have := HGR.out; omega))
      go_wp2_with fail
      go_ret
      exact ⟨some ⟨gr, 0, none⟩, m, by rw [HP.out]; rfl, by rw [← HPP.out]; exact OW.out, BW.out⟩

set_option maxHeartbeats 4000000 in
theorem pwaitsl_any (A : Option Addr) (n c : Nat) (l : List Ds) (w : World) (hx : Dss w A n c l) :
    Calls Try.prog 23 #[.slice A n c] w (ListI (waitsR l) w) := by
  have HX := Lib.hid hx
  have LX := Lib.hid hx.1
  have hnc := hx.2.1
  clear hx
  have HC := Lib.hid (pcheck_any A n c l w HX.out)
  unfold waitsR
  by_cases hok : pollOk l
  · rw [if_pos hok]
    rw [if_pos hok] at HC
    have HOK := Lib.hid hok
    have hn16 : n ≤ 16 := by rw [← LX.out]; exact hok.1
    clear hok
    go_enter Try.func23, Try.ntmps23
    go_wp2_with fail
    refine HC.out.mono ?_
    rintro e w1 ⟨rfl, b1⟩
    have B1 := Lib.hid b1
    have HX1 := Lib.hid (HX.out.below b1)
    clear b1 HC
    go_wp2_with fail
    go_loopw [5, 15] (fun u4 t wr => ∃ k : Nat, k ≤ n ∧ t = .int .i64 k ∧ ∃ Ao co ys, ys = waitL (l.take k) ∧ u4 = .slice Ao ys.length co ∧ Hid (WaI w1 wr Ao co ys)) (fun _ t _ => n - (intOf t).toNat)
    case atStart => exact ⟨0, Nat.zero_le _, rfl, none, 0, [], rfl, rfl, Lib.hid ⟨OwnI.nil_ _ _ _, Below.refl _ _⟩⟩
    case round =>
      rename World => wr
      obtain ⟨k, hk, rfl, Ao, co, ys, hys, rfl, WI⟩ := hrel
      by_cases hkn : k < n
      · obtain ⟨bL, oL, rfl, hbL, c0, c1, c2⟩ := (HX1.out.below WI.out.bl).at_ hkn
        have hkl : k < l.length := by rw [LX.out]; exact hkn
        obtain ⟨⟨o1, r1, z1⟩, hz⟩ : ∃ x, dth l k = x := ⟨_, rfl⟩
        have fz : Fit z1 := by have := HX.out.fit hkn; rw [hz] at this; exact this
        rw [hz] at c0 c1 c2
        simp only at c0 c1 c2
        have HW := Lib.hid (who_def l k hz)
        have hlo : -1 ≤ z1 := by have := (HOK.out.2 k hkl).1.2.2; rw [hz] at this; exact this
        have hyl : ys.length ≤ k := by rw [hys]; exact waitL_few l k
        have HYS := Lib.hid hys
        have FZ := Lib.hid fz
        have ba := (Below.refl wr.heap.size wr).alloc (Nat.le_refl _) (.cells #[.bool o1, .bool r1, .int .i64 z1] 34)
        have ka := Bk.new wr 34 #[.bool o1, .bool r1, .int .i64 z1]
        have W2 := WI.out.below ba
        obtain ⟨g, hg⟩ : ∃ g, wr.heap.size = g := ⟨_, rfl⟩
        obtain ⟨V, hV⟩ : ∃ V, wr.alloc (.cells #[.bool o1, .bool r1, .int .i64 z1] 34) = V := ⟨_, rfl⟩
        rw [hV] at ka W2
        rw [hg] at ka
        have HV := Lib.hid hV
        have HG := Lib.hid hg
        have KA := Lib.hid ka
        have W2 := Lib.hid W2
        clear hV hg ka ba hz fz hys
        go_upto_region 8 with fail
        rw [HV.out]
        try rw [HG.out]
        clear HV HG c0 c1 c2 hbL WI
        have a2 : _ = some (Value.int .i64 z1) := KA.out.cell 2
        have la := KA.out.lt
        by_cases h0 : 0 ≤ z1
        · have t1 : (z1 != -1) = true := by simp; omega
          have HYN : Hid (ys ++ [z1] = waitL (l.take (k + 1))) := Lib.hid (by rw [HYS.out, ← HW.out]; exact (waitL_yes hkl (by rw [HW.out]; exact h0)).symm)
          have W4 := Lib.hid (W2.out.below ((Below.refl V.heap.size V).alloc (Nat.le_refl _) (.cells #[.int .i64 z1] 2)))
          have T1 := Lib.hid (ints1 V 2 FZ.out)
          have hsz : w1.heap.size ≤ V.heap.size := W2.out.bl.size
          clear h0 hlo W2 KA
          go_wp2_with (at_builtin; refine wpList_append_ints _ rfl _ _ 37 rfl 2 Try.underlying37 infoI8 w1.heap.size Ao co ys _ rfl rfl W4.out.o (some ⟨V.heap.size, 0, none⟩) 1 1 [z1] rfl T1.out (by omega) (by simp; omega) ?_; intro A2 c2 w4 ho hgr; have W5 := Lib.hid (WaI.app W4.out ho hgr); clear ho hgr a2 la T1 W4)
          go_roundw
          case rel => exact ⟨k + 1, by omega, by go_num, A2, c2, _, HYN.out, by simp, W5⟩
          case measure => simp [intOf]; omega
        · have t1 : (z1 != -1) = false := by simp; omega
          have HYN : Hid (ys = waitL (l.take (k + 1))) := Lib.hid (by rw [HYS.out]; exact (waitL_no hkl (by rw [HW.out]; exact h0)).symm)
          clear h0 hlo
          go_wp2_with fail
          go_roundw
          case rel => exact ⟨k + 1, by omega, by go_num, Ao, co, ys, HYN.out, rfl, W2⟩
          case measure => simp [intOf]; omega
      · obtain rfl : n = k := by omega
        have e : ys = waitL l := by rw [hys, ← LX.out, List.take_length]
        subst e
        have hcp := WI.out.cap
        have HCP := Lib.hid hcp
        have HF := Lib.hid (WI.out.o.base B1.out.size)
        have HB := Lib.hid (below3 B1.out WI.out.bl)
        clear hcp hys
        go_wp2_with fail
        exact bodyPost_ret (v := .tuple #[.slice Ao (waitL l).length co, .int .i64 0]) (by simp [results, Try.results23, go_sem]) rfl ⟨Ao, co, rfl, HF.out, HB.out, HCP.out⟩
  · rw [if_neg hok]
    rw [if_neg hok] at HC
    clear hok
    go_enter Try.func23, Try.ntmps23
    go_wp2_with fail
    refine HC.out.mono ?_
    rintro e w1 ⟨rfl, b1⟩
    have B1 := Lib.hid b1
    clear b1 HC
    go_wp2_with fail
    exact bodyPost_ret (v := .tuple #[.slice none 0 0, .int .i64 1]) (by simp [results, Try.results23, go_sem]) rfl ⟨none, 0, rfl, OwnI.nil_ _ _ _, B1.out, by decide⟩

set_option maxHeartbeats 2000000 in
theorem pnew_any (n : Int) (w : World) : Calls Try.prog 21 #[.int .i64 n] w (ListD (newR n) w) := by
  unfold newR
  by_cases h : 0 ≤ n ∧ n ≤ 16
  · rw [if_pos h]
    obtain ⟨m, rfl⟩ := Int.eq_ofNat_of_zero_le h.1
    have hm : m ≤ 16 := by omega
    rw [Int.toNat_natCast]
    obtain ⟨p, hp⟩ : ∃ p, List.replicate m nilD = p := ⟨_, rfl⟩
    rw [hp]
    have HP := Lib.hid hp
    have t0 : decide ((m : Int) < 0) = false := decide_eq_false (by omega)
    have t1 : decide (16 < (m : Int)) = false := decide_eq_false (by omega)
    clear h hp
    go_enter Try.func21, Try.ntmps21
    go_wp2_with fail
    refine (nothing_any _).mono ?_
    rintro e w1 ⟨rfl, b1⟩
    have B1 := Lib.hid b1
    have b2 := (Below.refl w1.heap.size w1).alloc (Nat.le_refl _) (.cells #[.bool false, .bool false, .int .i64 (-1)] 34)
    have T1 := Lib.hid (dss1 w1 34 (o := false) (r := false) (show Fit (-1) by decide))
    have B2 := Lib.hid (below3 B1.out b2)
    clear b1 b2
    go_wp2_with fail
    refine (repeat_any _ _ m _ T1.out hm).mono ?_
    rw [HP.out]
    rintro e w2 ⟨A2, d2, rfl, p2, b3⟩
    have O2 := Lib.hid (p2.base B2.out.size)
    have B3 := Lib.hid (below3 B2.out b3)
    clear p2 b3
    go_wp2_with fail
    exact bodyPost_ret (v := .tuple #[.slice A2 p.length d2, .int .i64 0]) (by simp [results, Try.results21, go_sem]) rfl ⟨A2, d2, rfl, O2.out, B3.out⟩
  · rw [if_neg h]
    by_cases h0 : n < 0
    · have t0 : decide (n < 0) = true := decide_eq_true h0
      clear h h0
      go_enter Try.func21, Try.ntmps21
      go_wp2_with fail
      exact bodyPost_ret (v := .tuple #[.slice none 0 0, .int .i64 1]) (by simp [results, Try.results21, go_sem]) rfl ⟨none, 0, rfl, OwnD.nil_ _ _ _, Below.refl _ _⟩
    · have t0 : decide (n < 0) = false := decide_eq_false h0
      have t1 : decide (16 < n) = true := decide_eq_true (by omega)
      clear h h0
      go_enter Try.func21, Try.ntmps21
      go_wp2_with fail
      exact bodyPost_ret (v := .tuple #[.slice none 0 0, .int .i64 1]) (by simp [results, Try.results21, go_sem]) rfl ⟨none, 0, rfl, OwnD.nil_ _ _ _, Below.refl _ _⟩

end Go.Proofs.Ytndbaoiabmldgaa

/-
  The document's answer of layer 2, numbers of a sign and sixteen parts: what such a value is; the contracts of zero and Of.
-/
import Derived.Test.YtaaffpeppdinhaaLive
import Derived.Test.YtaaffpeppdinhaaBlk
import Derived.Test.YtaaffpeppdinhaaBigMath
import Derived.Deep.LoopGhost
import Derived.Deep.DeepCutAuto
import Derived.Deep.CutBlock
import Derived.BigRegion
import Derived.DeepKeys
namespace Go.Proofs.Ytaaffpeppdinhaa
open Go.RowKit

/-- The cells of a number of a sign and sixteen parts. -/
def BigC (c : Array Value) (m : Bool) (L : List Int) : Prop := c = (.bool m :: L.map (Value.int .u64)).toArray ∧ L.length = 16

theorem BigC.sign {c : Array Value} {m : Bool} {L : List Int} (h : BigC c m L) : c[0]? = some (.bool m) := by rw [h.1]; simp
theorem BigC.part {c : Array Value} {m : Bool} {L : List Int} (h : BigC c m L) {j : Nat} (hj : j < 16) : c[1 + j]? = some (.int .u64 (nth L j)) := by
  have hl := h.2
  rw [h.1, Nat.add_comm]
  simp [nth, List.getD, show j < L.length by omega]
theorem BigC.size {c : Array Value} {m : Bool} {L : List Int} (h : BigC c m L) : c.size = 17 := by rw [h.1]; simp [h.2]
theorem BigC.all {c : Array Value} {m : Bool} {L : List Int} (h : BigC c m L) : c.all (·.oneCell') = true := by
  rw [h.1]
  simp only [Array.all_toList.symm, List.all_cons, List.all_map]
  simp [Value.oneCell', Function.comp_def]
theorem BigC.set_part {c : Array Value} {m : Bool} {L : List Int} (h : BigC c m L) (j : Nat) (v : Int) : BigC (c.setIfInBounds (1 + j) (.int .u64 v)) m (L.set j v) := by
  refine ⟨?_, by simpa using h.2⟩
  rw [h.1, Nat.add_comm]
  simp [List.map_set]
theorem BigC.set_sign {c : Array Value} {m : Bool} {L : List Int} (h : BigC c m L) (n : Bool) : BigC (c.setIfInBounds 0 (.bool n)) n L := by
  refine ⟨?_, h.2⟩
  rw [h.1]
  simp
theorem big_zero (m : Bool) : BigC #[.bool m, .int .u64 0, .int .u64 0, .int .u64 0, .int .u64 0, .int .u64 0, .int .u64 0, .int .u64 0, .int .u64 0, .int .u64 0, .int .u64 0, .int .u64 0, .int .u64 0, .int .u64 0, .int .u64 0, .int .u64 0, .int .u64 0] m (List.replicate 16 0) := ⟨rfl, rfl⟩

/-- The cells of none. -/
def zc (m : Bool) : Array Value := #[.bool m, .int .u64 0, .int .u64 0, .int .u64 0, .int .u64 0, .int .u64 0, .int .u64 0, .int .u64 0, .int .u64 0, .int .u64 0, .int .u64 0, .int .u64 0, .int .u64 0, .int .u64 0, .int .u64 0, .int .u64 0, .int .u64 0]

/-- The number that the cells are: of none the sign is no minus. -/
def Big (c : Array Value) (z : Int) : Prop := ∃ m L, BigC c m L ∧ Dig L ∧ z = (if m = true then - val L else val L) ∧ (val L = 0 → m = false)

/-- A number is handed back. -/
def BigAns (z : Int) (w : World) (e : Ending) (w' : World) : Prop := ∃ c, e = .returned (.agg c) ∧ Big c z ∧ Below w.heap.size w w'

theorem sixteen {L : List Int} (h : L.length = 16) : ∃ l0 l1 l2 l3 l4 l5 l6 l7 l8 l9 l10 l11 l12 l13 l14 l15 : Int, L = [l0, l1, l2, l3, l4, l5, l6, l7, l8, l9, l10, l11, l12, l13, l14, l15] := by
  match L, h with
  | [l0, l1, l2, l3, l4, l5, l6, l7, l8, l9, l10, l11, l12, l13, l14, l15], _ => exact ⟨_, _, _, _, _, _, _, _, _, _, _, _, _, _, _, _, rfl⟩

theorem lits16 {L : List Int} (hl : L.length = 16) (hd : Dig L) : Try.prog.keyLits 2 42 (L.map (Value.int .u64)) = some (L.map (Lit.int .u64)) := by
  have hw : ∀ x ∈ L, (Lit.int .u64 x).wf = true := fun x hx => by
    have h1 : IntKind.u64.min = 0 := rfl
    have h2 : IntKind.u64.max = 18446744073709551615 := rfl
    have := hd x hx
    simp only [Lit.wf, Bool.and_eq_true, decide_eq_true_eq]
    omega
  obtain ⟨l0, l1, l2, l3, l4, l5, l6, l7, l8, l9, l10, l11, l12, l13, l14, l15, rfl⟩ := sixteen hl
  simp only [List.mem_cons, List.not_mem_nil, or_false, forall_eq_or_imp, forall_eq] at hw
  obtain ⟨w0, w1, w2, w3, w4, w5, w6, w7, w8, w9, w10, w11, w12, w13, w14, w15⟩ := hw
  have c1 : Try.prog.cellsOf 42 = 16 := by kernel_rfl
  have c2 : Try.prog.cellsOf 35 = 1 := by kernel_rfl
  have r16 : List.range 16 = [0, 1, 2, 3, 4, 5, 6, 7, 8, 9, 10, 11, 12, 13, 14, 15] := by decide
  simp [Program.keyLits, Try.underlying42, Try.underlying35, c1, c2, r16, w0, w1, w2, w3, w4, w5, w6, w7, w8, w9, w10, w11, w12, w13, w14, w15]

theorem eq16 {K L : List Int} (hk : K.length = 16) (hl : L.length = 16) (hK : Dig K) (hL : Dig L) (w : World) :
    (Op.equalIn 10000 42 (.agg (K.map (Value.int .u64)).toArray) (.agg (L.map (Value.int .u64)).toArray)).run Try.prog w = .ok (decide (K = L)) w := by
  have f : ∀ {M : List Int}, M.length = 16 → (Value.agg (M.map (Value.int .u64)).toArray).formed Try.prog 42 = true := fun {M} hm => by
    have c1 : Try.prog.cellsOf 42 = 16 := by kernel_rfl
    simp [Value.formed, Try.underlying42, c1, hm]
  obtain ⟨r, hr, he⟩ := run_equalIn_deep (P := Try.prog) 9998 2 42 (by kernel_rfl) w 2 2 _ _ _ _ (f hk) (f hl) (by simpa [Value.cells] using lits16 hk hK) (by simpa [Value.cells] using lits16 hl hL)
  have e : r = decide (K = L) := by
    rw [Bool.eq_iff_iff, he, decide_eq_true_eq]
    constructor
    · intro h
      exact (List.map_inj_right (fun a b h => by injection h)).1 h
    · intro h; rw [h]
  rw [← e]
  exact hr

set_option maxHeartbeats 1000000 in
theorem zero_parts (c : Array Value) (m : Bool) (L : List Int) (w : World) (hc : BigC c m L) (hd : Dig L) :
    Calls Try.prog 42 #[.agg c] w (RetB (.bool (decide (val L = 0))) w) := by
  have hv := val_zero hd
  rw [hc.2] at hv
  have he : decide (val L = 0) = decide (L = List.replicate 16 0) := by rw [Bool.eq_iff_iff]; simpa using hv
  rw [he]
  have hz : Dig (List.replicate 16 0) := by intro x hx; simp at hx; omega
  have EQ := Lib.hid (fun w => eq16 hc.2 (by rfl) hd hz w)
  obtain ⟨rfl, hl⟩ := hc
  obtain ⟨l0, l1, l2, l3, l4, l5, l6, l7, l8, l9, l10, l11, l12, l13, l14, l15, rfl⟩ := sixteen hl
  generalize decide ([l0, l1, l2, l3, l4, l5, l6, l7, l8, l9, l10, l11, l12, l13, l14, l15] = List.replicate 16 0) = r at EQ ⊢
  simp only [List.replicate_succ, List.replicate_zero, List.map_cons, List.map_nil] at EQ
  have hq := EQ.out
  clear hv he hd hz hl EQ
  go_enter Try.func42, Try.ntmps42
  go_wp2
  go_ret
  exact RetB.of rfl (below_alloc (Below.refl _ _) _)

/-- Of's parts so far. -/
def OfI (w : World) (m : Bool) (n : Int) (i : Nat) (wr : World) : Prop := ∃ c C, wr = w.alloc (.cells c 44) ∧
  BigC c m C ∧ Dig C ∧ (∀ t, i ≤ t → t < 16 → nth C t = 0) ∧ val C = n % 65536 ^ i

theorem digit_next {n : Int} (hn : 0 ≤ n) (i : Nat) : (n / 2 ^ (16 * i)).tmod 65536 = n / 65536 ^ i % 65536 ∧ n % 65536 ^ (i + 1) = n % 65536 ^ i + n / 65536 ^ i % 65536 * 65536 ^ i := by
  have e : (2 : Int) ^ (16 * i) = 65536 ^ i := by rw [Int.pow_mul]; rfl
  have h0 : 0 ≤ n / 65536 ^ i := Int.ediv_nonneg hn (Int.le_of_lt (Int.pow_pos (by omega)))
  refine ⟨by rw [e, Int.tmod_eq_emod_of_nonneg h0], ?_⟩
  rw [Int.pow_succ]
  have hB : (0 : Int) < 65536 ^ i := Int.pow_pos (by omega)
  clear e h0
  generalize (65536 : Int) ^ i = B at *
  have e1 := Int.mul_ediv_add_emod n B
  have e2 := Int.mul_ediv_add_emod (n / B) 65536
  have r1 := Int.emod_nonneg n (b := B) (by omega)
  have r2 := Int.emod_lt_of_pos n hB
  have q1 : 0 ≤ B * (n / B % 65536) := Int.mul_nonneg (by omega) (by omega)
  have q2 : B * (n / B % 65536) ≤ B * 65535 := Int.mul_le_mul_of_nonneg_left (by omega) (by omega)
  have e3 : n = B * 65536 * (n / B / 65536) + (B * (n / B % 65536) + n % B) := by
    rw [Int.mul_assoc, ← Int.add_assoc, ← Int.mul_add, e2, e1]
  have e4 : n % (B * 65536) = B * (n / B % 65536) + n % B := by
    have h := congrArg (· % (B * 65536)) e3
    simp only [Int.mul_add_emod_self_left] at h
    rw [h]
    exact Int.emod_eq_of_lt (by omega) (by omega)
  rw [e4, Int.mul_comm B]
  omega

theorem sizeBig : (Try.prog.info? 44).map (·.size) = some 17 := by kernel_rfl

/-- A number is read whole out of its block; and stored into one. -/
theorem wpl_load {ops : Array Oper} {rest : List Oper} {o : Oper} {a : Act} {w : World} {Q : Exit → Act → World → Prop} (hgd : o.guard = none) (x : Operand) (ho : o.op = .load 44 x)
    (g : Nat) (hx : a.eval x = .pointer (some ⟨g, 0, none⟩)) {c : Array Value} (hk : Bk w g 44 c) (hs : c.size = 17) (h : wpList Try.prog ops Q rest (a.put o.dst (.agg c)) w) : wpList Try.prog ops Q (o :: rest) a w :=
  wpList_load_row hgd 44 x ho g hx 44 c (0, 0) _ hk Try.underlying44 rfl (by rw [hs]; exact sizeBig) h
theorem wpl_store {ops : Array Oper} {rest : List Oper} {o : Oper} {a : Act} {w : World} {Q : Exit → Act → World → Prop} (hgd : o.guard = none) (x y : Operand) (ho : o.op = .store 44 x y)
    (g : Nat) (hx : a.eval x = .pointer (some ⟨g, 0, none⟩)) {old c : Array Value} (hy : a.eval y = .agg c) (hk : Bk w g 44 old) (hs : old.size = 17) (hc : c.size = 17) (h1 : c.all (·.oneCell') = true)
    (h : wpList Try.prog ops Q rest (a.put o.dst undef) (w.setRow g c)) : wpList Try.prog ops Q (o :: rest) a w :=
  wpList_store_row hgd 44 x y ho g c hx hy 44 old hk (by rw [hc]; exact sizeBig) (by rw [hs, hc]) h1 h
theorem ret_big {fn : Func} {p : Tmp} (h : fn.results = #[.cell p 44]) {a : Act} {w : World} {R : Ending → World → Prop} {g : Nat} {c : Array Value} (hp : a.tmps.getD p undef = .pointer (some ⟨g, 0, none⟩)) (hd : a.defers = [])
    (hk : Bk w g 44 c) (hs : c.size = 17) (hR : R (.returned (.agg c)) w) : bodyPost Try.prog fn R .ret a w :=
  bodyPost_ret (results_cell_row h a.tmps w g 44 c (0, 0) _ hp hk Try.underlying44 rfl (by rw [hs]; exact sizeBig)) hd hR

theorem Bk.load17 {w : World} {g : Nat} {c : Array Value} {m : Bool} {L : List Int} (h : Bk w g 44 c) (hc : BigC c m L) : (loadCellsFrom ⟨g, 0, none⟩ 0 17 #[]).run Try.prog w = .ok c w := h.load hc.size

theorem digs_big {c : Array Value} {m : Bool} {C : List Int} {a : Int} (h : BigC c m C) (hd : Dig C) (hs : (a < 0 ∧ m = true ∧ val C = -a) ∨ (0 ≤ a ∧ m = false ∧ val C = a)) : Big c a := by
  refine ⟨m, C, h, hd, ?_, ?_⟩
  · rcases hs with ⟨_, rfl, e⟩ | ⟨_, rfl, e⟩ <;> simp [e]
  · intro h0
    rcases hs with ⟨_, rfl, e⟩ | ⟨_, rfl, e⟩
    · omega
    · rfl

set_option maxHeartbeats 1000000 in
theorem of_minus (a : Int) (w : World) (ha : Fit a) (h : a < 0) :
    Calls Try.prog 29 #[.int .i64 a] w (BigAns a w) := by
  unfold Fit at ha
  obtain ⟨a1, a2⟩ := ha
  have hn : IntKind.u64.wrap (-IntKind.u64.wrap a) = -a := by simp only [IntKind.wrap_u64]; omega
  have n0 : 0 ≤ -a := by omega
  have n1 : -a < 65536 ^ 4 := by omega
  go_enter Try.func29, Try.ntmps29
  go_wp2
  go_loopg [15] 4 (fun k x wr => ∃ i : Nat, i ≤ 4 ∧ k = 4 - i ∧ x = .int .i64 i ∧ OfI (w.alloc (.cells (zc false) 44)) true (-a) i wr)
  case atStart => exact ⟨0, by omega, by omega, rfl, _, _, rfl, big_zero true, (by intro x hx; simp at hx; omega), fun t _ _ => nth_rep _ _, by rw [val_replicate]; simp⟩
  case round =>
    obtain ⟨i, hi, rfl, rfl, c, C, rfl, hc⟩ := hrel
    have HC := Lib.hid hc
    clear hc
    by_cases hlt : i < 4
    · have x1 := HC.out.1.part (j := i) (by omega)
      have b1 : (i : Int) < 16 := by omega
      have DN := Lib.hid (digit_next n0 i)
      clear n0 n1
      go_wp2
      go_roundg (4 - (i + 1))
      case measure => omega
      case rel =>
        obtain ⟨hb, hd, h0, hv⟩ := HC.out
        refine ⟨i + 1, by omega, by omega, by go_num, _, _, rfl, hb.set_part i _, ?_, ?_, ?_⟩
        · refine dig_of fun t ht => ?_
          have hl := hb.2
          rw [List.length_set] at ht
          rw [nth_set (by omega), DN.out.1]
          split
          · omega
          · exact hd.nth t
        · intro t h1 h2
          have hl := hb.2
          rw [nth_set (by omega), if_neg (by omega)]
          exact h0 t (by omega) h2
        · have hl := hb.2
          rw [val_set (by omega), h0 i (by omega) (by omega), hv, DN.out.1, DN.out.2, Int.sub_zero]
    · obtain rfl : i = 4 := by omega
      obtain ⟨hb, hd, -, hv⟩ := HC.out
      have hv' : val C = -a := by rw [hv]; exact Int.emod_eq_of_lt n0 n1
      have hbig : Big c a := digs_big hb hd (.inl ⟨h, rfl, hv'⟩)
      have HB := Lib.hid hbig
      have hs := hb.size
      have h1 := hb.all
      generalize hX : (w.alloc _).alloc _ = X
      have k1 : Bk X w.heap.size 44 (zc false) := by rw [← hX]; exact (Bk.new w _ _).alloc _
      have k2 : Bk X (w.heap.size + 1) 44 c := by
        rw [← hX]
        have := Bk.new (w.alloc (.cells (zc false) 44)) 44 c
        simpa using this
      have BX := Lib.hid (show Below w.heap.size w X by rw [← hX]; exact below_alloc (below_alloc (Below.refl _ _) _) _)
      clear hX hb hd hv hv' hbig n0 n1 HC
      go_wp2_with (first | (refine wpl_load rfl (.tmp 3) rfl _ rfl k2 hs ?_) | (refine wpl_store rfl (.tmp 2) (.tmp 27) rfl _ rfl rfl k1 rfl hs h1 ?_))
      exact ret_big Try.results29 rfl rfl (k1.row c) hs ⟨c, rfl, HB.out, below_row BX.out (Nat.le_refl _) c⟩

set_option maxHeartbeats 1000000 in
theorem of_plus (a : Int) (w : World) (ha : Fit a) (h : 0 ≤ a) :
    Calls Try.prog 29 #[.int .i64 a] w (BigAns a w) := by
  unfold Fit at ha
  obtain ⟨a1, a2⟩ := ha
  have hn : IntKind.u64.wrap a = a := by simp only [IntKind.wrap_u64]; omega
  have hdec : decide (a < 0) = false := by simp; omega
  have n0 : 0 ≤ a := by omega
  have n1 : a < 65536 ^ 4 := by omega
  go_enter Try.func29, Try.ntmps29
  go_wp2
  go_loopg [15] 4 (fun k x wr => ∃ i : Nat, i ≤ 4 ∧ k = 4 - i ∧ x = .int .i64 i ∧ OfI (w.alloc (.cells (zc false) 44)) false (a) i wr)
  case atStart => exact ⟨0, by omega, by omega, rfl, _, _, rfl, big_zero false, (by intro x hx; simp at hx; omega), fun t _ _ => nth_rep _ _, by rw [val_replicate]; simp⟩
  case round =>
    obtain ⟨i, hi, rfl, rfl, c, C, rfl, hc⟩ := hrel
    have HC := Lib.hid hc
    clear hc
    by_cases hlt : i < 4
    · have x1 := HC.out.1.part (j := i) (by omega)
      have b1 : (i : Int) < 16 := by omega
      have DN := Lib.hid (digit_next n0 i)
      clear n0 n1
      go_wp2
      go_roundg (4 - (i + 1))
      case measure => omega
      case rel =>
        obtain ⟨hb, hd, h0, hv⟩ := HC.out
        refine ⟨i + 1, by omega, by omega, by go_num, _, _, rfl, hb.set_part i _, ?_, ?_, ?_⟩
        · refine dig_of fun t ht => ?_
          have hl := hb.2
          rw [List.length_set] at ht
          rw [nth_set (by omega), DN.out.1]
          split
          · omega
          · exact hd.nth t
        · intro t h1 h2
          have hl := hb.2
          rw [nth_set (by omega), if_neg (by omega)]
          exact h0 t (by omega) h2
        · have hl := hb.2
          rw [val_set (by omega), h0 i (by omega) (by omega), hv, DN.out.1, DN.out.2, Int.sub_zero]
    · obtain rfl : i = 4 := by omega
      obtain ⟨hb, hd, -, hv⟩ := HC.out
      have hv' : val C = a := by rw [hv]; exact Int.emod_eq_of_lt n0 n1
      have hbig : Big c a := digs_big hb hd (.inr ⟨h, rfl, hv'⟩)
      have HB := Lib.hid hbig
      have hs := hb.size
      have h1 := hb.all
      generalize hX : (w.alloc _).alloc _ = X
      have k1 : Bk X w.heap.size 44 (zc false) := by rw [← hX]; exact (Bk.new w _ _).alloc _
      have k2 : Bk X (w.heap.size + 1) 44 c := by
        rw [← hX]
        have := Bk.new (w.alloc (.cells (zc false) 44)) 44 c
        simpa using this
      have BX := Lib.hid (show Below w.heap.size w X by rw [← hX]; exact below_alloc (below_alloc (Below.refl _ _) _) _)
      clear hX hb hd hv hv' hbig n0 n1 HC
      go_wp2_with (first | (refine wpl_load rfl (.tmp 3) rfl _ rfl k2 hs ?_) | (refine wpl_store rfl (.tmp 2) (.tmp 27) rfl _ rfl rfl k1 rfl hs h1 ?_))
      exact ret_big Try.results29 rfl rfl (k1.row c) hs ⟨c, rfl, HB.out, below_row BX.out (Nat.le_refl _) c⟩

theorem of_any (a : Int) (w : World) (ha : Fit a) : Calls Try.prog 29 #[.int .i64 a] w (BigAns a w) := by
  by_cases h : a < 0
  · exact of_minus a w ha h
  · exact of_plus a w ha (by omega)

end Go.Proofs.Ytaaffpeppdinhaa

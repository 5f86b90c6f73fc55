/-
  Layer 11, the program: slices.IndexFunc and slices.DeleteFunc at the joins of somebody.
-/
import Derived.Test.YtkffmohgnbnhkaaJa
import Derived.Test.YtkffmohgnbnhkaaJn
import Derived.Test.YtkffmohgnbnhkaaQue
import Derived.Lib.SliceRun
namespace Go.Proofs.Ytkffmohgnbnhkaa
open Go.RowKit

abbrev RowT (w : World) (base g c : Nat) (l : List Tm) : Prop := OwnT 37 w base (some ⟨g, 0, none⟩) c l
/-- Two stores: a timer at a place of a row. -/
def put2 (w : World) (g i : Nat) (x : Tm) : World := (w.setCell ⟨g, i * 2, none⟩ (.int .i64 x.1)).setCell ⟨g, i * 2 + 1, none⟩ (.int .i64 x.2)
theorem gb_trans {a b d : World} {r : Option Nat} (h : a.grownBy b r) (k : b.grownBy d r) : a.grownBy d r :=
  ⟨k.os.trans h.os, k.tape.trans h.tape, k.output.trans h.output, Nat.le_trans h.size k.size, fun i hi hr => (k.block i (Nat.lt_of_lt_of_le hi h.size) hr).trans (h.block i hi hr)⟩
theorem Below.gb {w w' : World} {row : Option Nat} (h : Below w.heap.size w w') : w.grownBy w' row := ⟨h.os, h.tape, h.output, h.size, fun k hk _ => h.block k hk⟩
theorem put2_grown (w : World) (g i : Nat) (x : Tm) : w.grownBy (put2 w g i x) (some g) := gb_trans (grown_set _) (grown_set _)
theorem cellsP_set : ∀ (l : List Tm) (i : Nat) (x : Tm), ((cellsP l).set (i * 2) (.int .i64 x.1)).set (i * 2 + 1) (.int .i64 x.2) = cellsP (l.set i x)
  | [], _, _ => by simp [cellsP]
  | t :: l, 0, x => by simp [cellsP, cells2]
  | t :: l, i + 1, x => by
    have ih := cellsP_set l i x
    have e : cellsP (t :: l) = [Value.int .i64 t.1, .int .i64 t.2] ++ cellsP l := by simp [cellsP, cells2]
    have e2 : cellsP ((t :: l).set (i + 1) x) = [Value.int .i64 t.1, .int .i64 t.2] ++ cellsP (l.set i x) := by simp [cellsP, cells2]
    rw [e, e2, ← ih, show (i + 1) * 2 = i * 2 + 2 by omega]
    simp
theorem OwnT.put {w : World} {base g c : Nat} {l : List Tm} (h : RowT w base g c l) (i : Nat) {x : Tm} (hx : FitI x) : RowT (put2 w g i x) base g c (l.set i x) := by
  obtain ⟨h1, h2, h3⟩ := h
  refine ⟨by rw [List.length_set]; exact h1, fun y hy => ?_, ?_⟩
  · rcases List.mem_or_eq_of_mem_set hy with h | h
    · exact h2 y h
    · rw [h]; exact hx
  · have a := (h3.stored (i * 2) (.int .i64 x.1)).1
    have b := (a.stored (i * 2 + 1) (.int .i64 x.2)).1
    rw [cellsP_set] at b
    rw [List.length_set]
    exact b
theorem OwnT.at2 {w : World} {base g c : Nat} {l : List Tm} (h : RowT w base g c l) {i : Nat} (hi : i < l.length) :
    w.cell? ⟨g, i * 2, none⟩ = some (.int .i64 (jO l i)) ∧ w.cell? ⟨g, i * 2 + 1, none⟩ = some (.int .i64 (jA l i)) ∧ w.frozen? ⟨g, i * 2, none⟩ = false ∧ w.frozen? ⟨g, i * 2 + 1, none⟩ = false := by
  obtain ⟨d0, d1⟩ := cellsP_at l hi
  have g0 := h.2.2.cells (g := g) rfl _ _ d0
  have g1 := h.2.2.cells (g := g) rfl _ _ d1
  rw [Addr.add_lit] at g0 g1
  rw [Nat.zero_add] at g0 g1
  exact ⟨g0, g1, h.2.2.frozenAt _, h.2.2.frozenAt _⟩
theorem OwnT.fit {w : World} {base g c : Nat} {l : List Tm} (h : RowT w base g c l) {i : Nat} (hi : i < l.length) : FitI (ith l i) := by
  rw [ith_get hi]; exact h.2.1 _ (List.getElem_mem hi)
theorem OwnT.lt {w : World} {base g c : Nat} {l : List Tm} (h : RowT w base g c l) : base ≤ g ∧ g < w.heap.size := h.2.2.lt g rfl
/-- What is read of one place of a row. -/
theorem OwnT.here {w : World} {base g c : Nat} {l : List Tm} (h : RowT w base g c l) {i : Nat} (hi : i < l.length) {a b : Int} (e : ith l i = (a, b)) :
    w.cell? ⟨g, i * 2, none⟩ = some (.int .i64 a) ∧ w.cell? ⟨g, i * 2 + 1, none⟩ = some (.int .i64 b) := by
  obtain ⟨h0, h1, _⟩ := h.at2 hi
  unfold jO at h0
  unfold jA at h1
  rw [e] at h0 h1
  exact ⟨h0, h1⟩
/-- A row cut short; cells behind it are written. -/
theorem OwnT.short {E : TypeId} {w : World} {base : Nat} {A : Option Addr} {c : Nat} {zs : List Tm} (h : OwnT E w base A c zs) {k : Nat} (hk : k ≤ zs.length) (hA : A ≠ none) : OwnT E w base A c (zs.take k) := by
  obtain ⟨h1, h2, h3, h4⟩ := h
  have hl : (zs.take k).length = k := by rw [List.length_take]; omega
  have hc : cellsP (zs.take k) = (cellsP zs).take (k * 2) := by
    clear h1 h2 h3 h4 hl hk
    induction zs generalizing k with
    | nil => simp [cellsP]
    | cons t zs ih =>
      cases k with
      | zero => simp [cellsP]
      | succ k =>
        have e : ∀ (u : Tm) (us : List Tm), cellsP (u :: us) = Value.int .i64 u.1 :: .int .i64 u.2 :: cellsP us := fun u us => by simp [cellsP, cells2]
        rw [List.take_succ_cons, e, e, show (k + 1) * 2 = k * 2 + 1 + 1 by omega, List.take_succ_cons, List.take_succ_cons, ih]
  refine ⟨by rw [hl]; omega, fun z hz => h2 z (List.mem_of_mem_take hz), by rw [cellsP_len], ?_⟩
  rcases h4 with ⟨e, _⟩ | ⟨g, cap, cur, e, hb, hh, hc1, hm, hs, ht⟩
  · injection e with e _ _
    exact absurd e hA
  · injection e with e1 e2 e3
    subst e1 e3
    refine .inr ⟨g, c, cur, by rw [hl], hb, hh, by omega, hm, hs, ?_⟩
    rw [hl, hc, ← ht, List.take_take, Nat.min_eq_left (by omega)]
theorem OwnT.setOut {E : TypeId} {base g c : Nat} {zs : List Tm} : ∀ (vs : List Value) (o : Nat) (w : World), zs.length * 2 ≤ o → OwnT E w base (some ⟨g, 0, none⟩) c zs → OwnT E (w.setCells g o vs) base (some ⟨g, 0, none⟩) c zs
  | [], _, _, _, h => h
  | v :: vs, o, w, ho, h => by
    have h' : OwnT E (w.setCell ⟨g, o, none⟩ v) base (some ⟨g, 0, none⟩) c zs := by
      refine ⟨h.1, h.2.1, ?_⟩
      have := (h.2.2.stored o v).1
      rwa [List.set_eq_of_length_le (by rw [cellsP_len]; exact ho)] at this
    exact OwnT.setOut vs (o + 1) _ (by omega) h'
theorem zero_cells2 (n : Nat) : (Builtin.zeroCells (Value.agg #[.int .i64 0, .int .i64 0]).cells n).toList = List.replicate (n * 2) (Value.int .i64 0) := by
  apply List.ext_getElem
  · simp [Builtin.zeroCells, Value.cells]
  · intro i h1 h2
    have h3 : i % 2 = 0 ∨ i % 2 = 1 := by omega
    rcases h3 with h3 | h3 <;> simp [Builtin.zeroCells, Value.cells, h3]
theorem run_clear_joins {P : Program} (w : World) (t e ty : TypeId) (ht : P.underlying t = some (.slice e)) (hv : ∀ w, (zeroValue e).run P w = .ok (.agg #[.int .i64 0, .int .i64 0]) w) (b o n c : Nat) (hn : 0 < n)
    (hc : ∀ j, j < n * 2 → (w.cell? ⟨b, o + j, none⟩).isSome = true) (hf : ∀ j, j < n * 2 → w.frozen? ⟨b, o + j, none⟩ = false) :
    (Builtin.clear_ #[t] ty #[.slice (some ⟨b, o, none⟩) n c]).run P w = .ok (.tuple #[]) (w.setCells b o (List.replicate (n * 2) (.int .i64 0))) := by
  have hst := run_storeCells_cells (P := P) b o (List.replicate (n * 2) (Value.int .i64 0)) 0 w (by simpa using hc) (by simpa using hf) (by intro v hv'; rw [List.eq_of_mem_replicate hv']; rfl)
  simp only [Nat.add_zero] at hst
  obtain ⟨m, rfl⟩ : ∃ m, n = m + 1 := ⟨n - 1, by omega⟩
  have hzc := zero_cells2 (m + 1)
  simp [Builtin.clear_, run_underlying ht, hv, hzc, hst]

theorem pis_any (y z x : Int) (gb : Nat) (w : World) (hc : w.cell? ⟨gb, 0, none⟩ = some (.int .i64 x)) (hlt : gb < w.heap.size) :
    Calls Try.prog 29 #[.agg #[.int .i64 y, .int .i64 z], .pointer (some ⟨gb, 0, none⟩)] w (RetB (.bool (decide (z = x))) w) := by
  have k0 := Bk.new w 37 #[.int .i64 y, .int .i64 z]
  have hb := (Below.refl w.heap.size w).alloc (Nat.le_refl _) (.cells #[.int .i64 y, .int .i64 z] 37)
  have q : _ = some (Value.int .i64 x) := (hb.cell (p := ⟨gb, 0, none⟩) hlt).trans hc
  have c1 := k0.c1
  have HB := Lib.hid hb
  have HE := Lib.hid (show (z == x) = decide (z = x) from rfl)
  clear k0 hb hc
  go_enter Try.func29, Try.ntmps29
  go_wp2_with fail
  go_ret
  exact ⟨by simp; exact HE.out, HB.out⟩

/-- Where somebody's join is first. -/
def FirstJ (l : List Tm) (x : Int) (k : Nat) : Prop := k < l.length ∧ jA l k = x ∧ ∀ j, j < k → jA l j ≠ x
theorem mem_whos {l : List Tm} {x : Int} : x ∈ whos l ↔ ∃ j, j < l.length ∧ jA l j = x := by
  unfold whos
  rw [List.mem_map]
  constructor
  · rintro ⟨t, ht, e⟩
    obtain ⟨i, hi, rfl⟩ := List.getElem_of_mem ht
    exact ⟨i, hi, by unfold jA; rw [ith_get hi]; exact e⟩
  · rintro ⟨j, hj, e⟩
    exact ⟨ith l j, whos_nth hj, e⟩

set_option maxHeartbeats 1000000 in
theorem pidx_any (A : Option Addr) (n c : Nat) (l : List Tm) (x : Int) (gb : Nat) (w : World) (hx : Tms w A n c l) (hk : Bk w gb 2 #[.int .i64 x]) (hm : x ∈ whos l) :
    Calls Try.prog 36 #[.slice A n c, .func (.func 29) #[] #[.pointer (some ⟨gb, 0, none⟩)]] w
      (fun e w' => ∃ k : Nat, e = .returned (.int .i64 (k : Int)) ∧ FirstJ l x k ∧ Below w.heap.size w w') := by
  have HX := Lib.hid hx
  have LX := Lib.hid hx.1
  have HK := Lib.hid hk
  have HM := Lib.hid hm
  have hnc := hx.2.1
  clear hx hk hm
  go_enter Try.func36, Try.ntmps36
  go_wp2_with fail
  go_loopw [8] (fun t wr => ∃ k : Nat, k ≤ n ∧ t = .int .i64 k ∧ Hid (Below w.heap.size w wr ∧ ∀ j, j < k → jA l j ≠ x)) (fun t _ => n - (intOf t).toNat)
  case atStart => exact ⟨0, Nat.zero_le _, rfl, Lib.hid ⟨Below.refl _ _, fun i hi => by omega⟩⟩
  case round =>
    rename World => wr
    obtain ⟨k, hk, rfl, OK⟩ := hrel
    by_cases hkn : k < n
    · obtain ⟨b, o, rfl, hb, c0, c1⟩ := (HX.out.below OK.out.1).at_ hkn
      have hkl : k < l.length := by rw [LX.out]; exact hkn
      obtain ⟨z1, hz1⟩ : ∃ z1, jO l k = z1 := ⟨_, rfl⟩
      obtain ⟨z2, hz2⟩ : ∃ z2, jA l k = z2 := ⟨_, rfl⟩
      rw [hz1] at c0
      rw [hz2] at c1
      have kb := HK.out.below OK.out.1 HK.out.lt
      have HC := Lib.hid (pis_any z1 z2 x gb wr kb.one kb.lt)
      have HZ := Lib.hid hz2
      clear hz1 hz2 kb
      go_wp2_with fail
      refine HC.out.mono ?_
      by_cases he : z2 = x
      · rw [decide_eq_true he]
        rintro e w1 ⟨rfl, b1⟩
        have HH : Hid (FirstJ l x k ∧ Below w.heap.size w w1) := Lib.hid ⟨⟨hkl, by rw [HZ.out]; exact he, OK.out.2⟩, below3 OK.out.1 b1⟩
        clear he b1
        go_wp2_with fail
        go_ret
        exact ⟨k, rfl, HH.out.1, HH.out.2⟩
      · rw [decide_eq_false he]
        rintro e w1 ⟨rfl, b1⟩
        have OK2 : Hid (Below w.heap.size w w1 ∧ ∀ j, j < k + 1 → jA l j ≠ x) := Lib.hid ⟨below3 OK.out.1 b1, fun i hi => by
          by_cases e : i = k
          · subst e; rw [HZ.out]; exact he
          · exact OK.out.2 i (by omega)⟩
        clear he OK b1
        go_wp2_with fail
        go_roundw
        case rel => exact ⟨k + 1, by omega, by go_num, OK2⟩
        case measure => simp [intOf]; omega
    · obtain ⟨j, hj, e⟩ := mem_whos.1 HM.out
      exact absurd e (OK.out.2 j (by have := LX.out; omega))

theorem ith_set (l : List Tm) (t i : Nat) (x : Tm) (h : t < l.length) : ith (l.set i x) t = if i = t then x else ith l t := by
  rw [ith_get (by simpa using h), List.getElem_set, ith_get h]
theorem ith_beyond {l : List Tm} {p : Nat} (h : l.length ≤ p) : ith l p = (0, 0) := by simp [ith, List.getD, List.getElem?_eq_none h]
theorem less_none {l : List Tm} {x : Int} (h : x ∉ whos l) : lessJ l x = l := by
  unfold lessJ
  rw [List.filter_eq_self]
  intro y hy
  simp
  rintro rfl
  exact h (List.mem_map.2 ⟨y, hy, rfl⟩)
/-- What DeleteFunc's row holds between two rounds: those that stay, and behind j all as before. -/
structure DelJ (l : List Tm) (x : Int) (i j : Nat) (dk : List Tm) : Prop where
  len : dk.length = l.length
  lt : i < j
  le : j ≤ l.length
  kept : dk.take i = lessJ (l.take j) x
  high : ∀ t, j ≤ t → ith dk t = ith l t
theorem DelJ.start {l : List Tm} {x : Int} {k : Nat} (h : FirstJ l x k) : DelJ l x k (k + 1) l := by
  refine ⟨rfl, Nat.lt_succ_self _, h.1, ?_, fun _ _ => rfl⟩
  rw [less_next h.1, if_pos h.2.1, less_none]
  intro hm
  obtain ⟨j, hj, e⟩ := mem_whos.1 hm
  rw [List.length_take] at hj
  refine h.2.2 j (by omega) ?_
  unfold jA at e ⊢
  rw [ith_take (by omega)] at e
  exact e
theorem DelJ.skip {l dk : List Tm} {x : Int} {i j : Nat} (h : DelJ l x i j dk) (hj : j < l.length) (he : jA l j = x) : DelJ l x i (j + 1) dk :=
  ⟨h.len, by have := h.lt; omega, hj, by rw [less_next hj, if_pos he]; exact h.kept, fun t ht => h.high t (by omega)⟩
theorem DelJ.keep {l dk : List Tm} {x : Int} {i j : Nat} (h : DelJ l x i j dk) (hj : j < l.length) (he : jA l j ≠ x) : DelJ l x (i + 1) (j + 1) (dk.set i (ith l j)) := by
  have hi : i < dk.length := by have := h.lt; have := h.len; omega
  refine ⟨by simpa using h.len, by have := h.lt; omega, hj, ?_, fun t ht => ?_⟩
  · rw [less_next hj, if_neg he, ← h.kept]
    rw [List.take_add_one]
    simp [hi, List.take_set_of_le]
  · by_cases htl : t < dk.length
    · rw [ith_set _ _ _ _ htl, if_neg (by have := h.lt; omega)]
      exact h.high t (by omega)
    · rw [ith_beyond (by simpa using Nat.le_of_not_lt htl), ith_beyond (by have := h.len; omega)]
theorem DelJ.done {l dk : List Tm} {x : Int} {i j : Nat} (h : DelJ l x i j dk) (hj : l.length ≤ j) : dk.take i = lessJ l x ∧ i = (lessJ l x).length := by
  have hk := h.kept
  rw [List.take_of_length_le hj] at hk
  refine ⟨hk, ?_⟩
  rw [← hk, List.length_take]
  have := h.lt
  have := h.le
  have := h.len
  omega
theorem OwnT.tmsN {E : TypeId} {w : World} {base : Nat} {A : Option Addr} {c n : Nat} {zs : List Tm} (h : OwnT E w base A c zs) (hl : zs.length = n) : Tms w A n c zs := hl ▸ h.tms

set_option maxHeartbeats 4000000 in
theorem pdel_any (ga n c gb base : Nat) (l : List Tm) (x : Int) (w : World) (ho : RowT w base ga c l) (hn : l.length = n) (hk : Bk w gb 2 #[.int .i64 x]) (hne : ga ≠ gb) (hm : x ∈ whos l) :
    Calls Try.prog 28 #[.slice (some ⟨ga, 0, none⟩) n c, .func (.func 29) #[] #[.pointer (some ⟨gb, 0, none⟩)]] w
      (fun e w' => e = .returned (.slice (some ⟨ga, 0, none⟩) (lessJ l x).length c) ∧ RowT w' base ga c (lessJ l x) ∧ w.grownBy w' (some ga)) := by
  have HX := Lib.hid (ho.tmsN hn)
  have HO := Lib.hid ho
  have LX := Lib.hid hn
  have HK := Lib.hid hk
  have HM := Lib.hid hm
  have HNE := Lib.hid hne
  have hcap := ho.cap
  rw [hn] at hcap
  clear ho hk hm hn hne
  obtain ⟨qn, hqn⟩ : ∃ qn, (lessJ l x).length = qn := ⟨_, rfl⟩
  rw [hqn]
  have HQN := Lib.hid hqn
  clear hqn
  go_enter Try.func28, Try.ntmps28
  go_wp2_with fail
  refine (pidx_any (some ⟨ga, 0, none⟩) n c l x gb _ HX.out HK.out HM.out).mono ?_
  rintro e w1 ⟨k0, rfl, hf, b1⟩
  have hk0 : k0 < n := by rw [← LX.out]; exact hf.1
  have O1 := Lib.hid (HO.out.below b1)
  have K1 := Lib.hid (HK.out.below b1 HK.out.lt)
  have HF := Lib.hid hf
  have G1 : Hid (w.grownBy w1 (some ga)) := Lib.hid (Below.gb b1)
  have t0 : ((k0 : Int) == -1) = false := by simp <;> omega
  clear b1 hf HX HO HK
  have I0 := Lib.hid (DelJ.start HF.out)
  go_wp2_with fail
  go_loopw [5, 6] (fun u5 u6 wr => ∃ (i j : Nat) (dk : List Tm), u5 = .int .i64 i ∧ u6 = .int .i64 j ∧ j ≤ n ∧ i < j ∧ Hid (DelJ l x i j dk) ∧ Hid (RowT wr base ga c dk) ∧ Hid (w.grownBy wr (some ga)) ∧ Hid (Bk wr gb 2 #[.int .i64 x])) (fun _ u6 _ => n - (intOf u6).toNat)
  case atStart => exact ⟨k0, k0 + 1, l, rfl, by go_num, by omega, by omega, I0, O1, G1, K1⟩
  case round =>
    clear I0 O1 G1 K1
    rename World => wr
    obtain ⟨i, j, dk, rfl, rfl, hj, hij, DI, OD, GW, KW⟩ := hrel
    by_cases hjn : j < n
    · have hdl : dk.length = n := by rw [DI.out.len]; exact LX.out
      have hjl : j < l.length := by rw [LX.out]; exact hjn
      obtain ⟨⟨y1, y2⟩, hy⟩ : ∃ y, ith l j = y := ⟨_, rfl⟩
      obtain ⟨⟨o1, o2⟩, hold⟩ : ∃ y, ith dk i = y := ⟨_, rfl⟩
      obtain ⟨c0, c1⟩ := OD.out.here (i := j) (a := y1) (b := y2) (by rw [hdl]; exact hjn) (by rw [DI.out.high j (Nat.le_refl _)]; exact hy)
      have hb := OD.out.lt.2
      have fz : FitI (y1, y2) := by have := OD.out.fit (i := j) (by rw [hdl]; exact hjn); rw [DI.out.high j (Nat.le_refl _), hy] at this; exact this
      obtain ⟨ci0, ci1⟩ := OD.out.here (i := i) (by rw [hdl]; omega) hold
      obtain ⟨-, -, fi0, fi1⟩ := OD.out.at2 (i := i) (by rw [hdl]; omega)
      have HY := Lib.hid hy
      have FZ := Lib.hid fz
      have hbx := (Below.refl wr.heap.size wr).alloc (Nat.le_refl _) (.cells #[.int .i64 y1, .int .i64 y2] 37)
      have kx := Bk.new wr 37 #[.int .i64 y1, .int .i64 y2]
      obtain ⟨g, hg⟩ : ∃ g, wr.heap.size = g := ⟨_, rfl⟩
      have HBX := Lib.hid hbx
      have HKX := Lib.hid kx
      have d0 := kx.c0
      have d1 := kx.c1
      have KX := Lib.hid (KW.out.below hbx KW.out.lt)
      have HC := Lib.hid (pis_any y1 y2 x gb (wr.alloc (.cells #[.int .i64 y1, .int .i64 y2] 37)) KX.out.one KX.out.lt)
      have hjA : jA l j = y2 := by unfold jA; rw [hy]
      clear hy hold hdl fz hbx kx hg
      by_cases he : y2 = x
      · rw [decide_eq_true he] at HC
        have DN := Lib.hid (DI.out.skip hjl (by rw [hjA]; exact he))
        clear he ci0 ci1 fi0 fi1 hjA
        go_wp2_with fail
        refine HC.out.mono ?_
        rintro e w2 ⟨rfl, b2⟩
        have b3 := below3 HBX.out b2
        have O2 := Lib.hid (OD.out.below b3)
        have K2 := Lib.hid (KW.out.below b3 KW.out.lt)
        have G2 := Lib.hid (GW.out.trans (show wr.grownBy w2 (some ga) from Below.gb b3))
        clear b2 c0 c1 hb HC b3 d0 d1
        go_wp2_with fail
        go_roundw
        case rel => exact ⟨i, j + 1, dk, rfl, by go_num, by omega, by omega, DN, O2, G2, K2⟩
        case measure => simp [intOf]; omega
      · rw [decide_eq_false he] at HC
        have DN := Lib.hid (DI.out.keep hjl (by rw [hjA]; exact he))
        rw [HY.out] at DN
        clear he hjA
        go_wp2_with fail
        refine HC.out.mono ?_
        rintro e w2 ⟨rfl, b2⟩
        have b3 := below3 HBX.out b2
        have e0 := (b2.cell (p := ⟨wr.heap.size, 0, none⟩) HKX.out.lt).trans d0
        have e1 := (b2.cell (p := ⟨wr.heap.size, 1, none⟩) HKX.out.lt).trans d1
        have lw := Nat.lt_of_lt_of_le HKX.out.lt b2.size
        have ci2 := (b3.cell (p := ⟨ga, i * 2, none⟩) hb).trans ci0
        have ci3 := (b3.cell (p := ⟨ga, i * 2 + 1, none⟩) hb).trans ci1
        have fi2 := (b3.frozen (p := ⟨ga, i * 2, none⟩) hb).trans fi0
        have fi3 := (b3.frozen (p := ⟨ga, i * 2 + 1, none⟩) hb).trans fi1
        have hb2 := Nat.lt_of_lt_of_le hb b3.size
        have O2 := Lib.hid ((OD.out.below b3).put i FZ.out)
        have K2 : Hid (Bk (put2 w2 ga i (y1, y2)) gb 2 #[.int .i64 x]) := Lib.hid (((KW.out.below b3 KW.out.lt).far (p := ⟨ga, i * 2, none⟩) (fun q => HNE.out q.symm) (.int .i64 y1)).far (p := ⟨ga, i * 2 + 1, none⟩) (fun q => HNE.out q.symm) (.int .i64 y2))
        have G2 := Lib.hid (gb_trans (gb_trans GW.out (show wr.grownBy w2 (some ga) from Below.gb b3)) (put2_grown w2 ga i (y1, y2)))
        unfold put2 at O2 K2 G2
        clear b2 c0 c1 hb HC ci0 ci1 fi0 fi1 b3 d0 d1
        go_wp2_with fail
        go_roundw
        case rel => exact ⟨i + 1, j + 1, dk.set i (y1, y2), by go_num, by go_num, by omega, by omega, DN, O2, G2, K2⟩
        case measure => simp [intOf]; omega
    · have hjn' : j = n := by omega
      have hdl : dk.length = n := by rw [DI.out.len]; exact LX.out
      obtain ⟨hd1, hd2⟩ := DI.out.done (by rw [LX.out]; omega)
      have hin : i < n := by omega
      have hcell : ∀ t, t < n * 2 → (wr.cell? ⟨ga, t, none⟩).isSome = true ∧ wr.frozen? ⟨ga, t, none⟩ = false := fun t ht => by
        obtain ⟨a0, a1, a2, a3⟩ := OD.out.at2 (i := t / 2) (by rw [hdl]; omega)
        have h2 : t = t / 2 * 2 ∨ t = t / 2 * 2 + 1 := by omega
        rcases h2 with h2 | h2
        · rw [h2, a0, a2]; exact ⟨rfl, rfl⟩
        · rw [h2, a1, a3]; exact ⟨rfl, rfl⟩
      have hcl : ∀ ty, (Builtin.clear_ #[22] ty #[.slice (some ⟨ga, i * 2, none⟩) (n - i) (c - i)]).run Try.prog wr = .ok (.tuple #[]) (wr.setCells ga (i * 2) (List.replicate ((n - i) * 2) (.int .i64 0))) :=
        fun ty => run_clear_joins wr _ 37 ty Try.underlying22 (fun w => by kernel_rfl) ga (i * 2) _ _ (by omega) (fun t ht => (hcell _ (by omega)).1) (fun t ht => (hcell _ (by omega)).2)
      have OF := Lib.hid (OwnT.setOut (List.replicate ((n - i) * 2) (Value.int .i64 0)) (i * 2) wr (by rw [List.length_take]; omega) (OD.out.short (k := i) (by rw [hdl]; omega) (by simp)))
      have GF := Lib.hid (gb_trans GW.out (grown_setCells wr ga (i * 2) (List.replicate ((n - i) * 2) (Value.int .i64 0))))
      rw [hd1] at OF
      have hic : i < c := by omega
      have HD := Lib.hid (hd2.trans HQN.out)
      clear hd1 hd2 hdl hjn' DI OD GW KW hcell
      go_wp2_with fail
      go_ret
      have e := HD.out
      subst e
      exact ⟨rfl, OF.out, GF.out⟩

end Go.Proofs.Ytkffmohgnbnhkaa

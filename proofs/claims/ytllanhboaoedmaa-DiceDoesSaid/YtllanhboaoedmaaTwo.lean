/-
  The walk of the law DiceTwo of layer 3: an order is drawn by as many single draws as it has places less one.
-/
import Derived.Test.YtllanhboaoedmaaPlain
namespace Go.Proofs.Ytllanhboaoedmaa
open Go.RowKit

/-- Octets stay where a cell is written that is no octet. -/
theorem Octs.apart {w : World} {A : Option Addr} {n : Nat} {bs : List Int} (h : Octs w A n bs) {p : Addr} {v : Value} (hc : w.cell? p = some v) (hv : ∀ z, v ≠ .int .u8 z) (u : Value) : Octs (w.setCell p u) A n bs :=
  ⟨h.1, h.2.1, h.2.2.1, fun hn => by
    obtain ⟨b, o, e, hb, hcell⟩ := h.2.2.2 hn
    refine ⟨b, o, e, by simpa [World.setCell] using hb, fun j hj => (World.cell?_setCell_other w _ _ _ ?_).trans (hcell j hj)⟩
    rintro rfl
    rw [hcell j hj] at hc
    injection hc with hc
    exact hv _ hc.symm⟩

theorem OwnI.apart {E : TypeId} {w : World} {base g : Nat} {c : Nat} {zs : List Int} (h : OwnI E w base (some ⟨g, 0, none⟩) c zs) {p : Addr} (hp : g ≠ p.block) (u : Value) : OwnI E (w.setCell p u) base (some ⟨g, 0, none⟩) c zs :=
  ⟨h.1, h.2.1, ownsRow_setCell_other h.2.2 (by simpa [Value.ownBlock] using hp) u⟩

theorem OwnI.lt {E : TypeId} {w : World} {base g : Nat} {c : Nat} {zs : List Int} (h : OwnI E w base (some ⟨g, 0, none⟩) c zs) : g < w.heap.size := by
  rcases h.2.2.2 with ⟨h1, -⟩ | ⟨g', cap, cur, e, -, hh, -⟩
  · simp at h1
  · injection e with e1 _ _
    simp at e1
    subst e1
    exact (Array.getElem?_eq_some_iff.1 hh).1

set_option maxRecDepth 100000 in
set_option maxHeartbeats 2000000 in
theorem two_big (A : Option Addr) (N c : Nat) (p m : Int) (w : World) (hN : N ≤ 9223372036854775807) (h : 1000 < N ∨ 60 < m) :
    Calls Try.prog 8 #[.agg #[.slice A N c, .int .i64 p], .int .i64 m] w (TrueAns w) := by
  have k2 := Bk.new w 24 #[.slice A N c, .int .i64 p]
  have b0 := (Below.refl w.heap.size w).alloc (Nat.le_refl _) (.cells #[.slice A N c, .int .i64 p] 24)
  by_cases h1 : 1000 < N
  all_goals
    go_enter Try.func8, Try.ntmps8
    go_wp2_with fail
    refine (live_any _).mono ?_
    rintro e w1 ⟨rfl, hb1⟩
    have c0 := (k2.below hb1 k2.lt).c0
    have HB := Lib.hid (below3 b0 hb1)
    clear hb1 b0 k2
    go_wp2
    go_ret
    exact ⟨rfl, HB.out⟩

set_option maxRecDepth 100000 in
set_option maxHeartbeats 2000000 in
theorem two_no (A : Option Addr) (N c : Nat) (p m : Int) (w : World) (hN : N ≤ 1000) (hm : m ≤ 60) (h : ¬ (0 ≤ p ∧ p ≤ N ∧ 0 ≤ m ∧ m ≤ 256)) :
    Calls Try.prog 8 #[.agg #[.slice A N c, .int .i64 p], .int .i64 m] w (TrueAns w) := by
  have k2 := Bk.new w 24 #[.slice A N c, .int .i64 p]
  have BB := Lib.hid ((Below.refl w.heap.size w).alloc (Nat.le_refl _) (.cells #[.slice A N c, .int .i64 p] 24))
  have K_d := Lib.hid k2
  have HH := Lib.hid h
  clear h k2
  go_enter Try.func8, Try.ntmps8
  go_wp2_with fail
  refine (live_any _).mono ?_
  rintro e w1 ⟨rfl, hb⟩
  have ha := hb
  replace K_d := Lib.hid (K_d.out.below ha K_d.out.lt)
  replace BB := Lib.hid (below3 BB.out ha)
  clear ha hb
  have a_d := K_d.out.c0
  have b_d := K_d.out.c1
  go_wp2_with fail
  refine (order_no A N c p m _ (by omega) HH.out).mono ?_
  rintro e w2 ⟨Ay, cy, By, dy, rfl, -, -, hb⟩
  clear a_d b_d
  have ha := hb.alloc hb.size (.cells #[.slice Ay 0 cy, .int .i64 0] 24)
  have han := (Below.refl w2.heap.size w2).alloc (Nat.le_refl _) (.cells #[.slice Ay 0 cy, .int .i64 0] 24)
  replace K_d := Lib.hid (K_d.out.below ha K_d.out.lt)
  replace BB := Lib.hid (below3 BB.out ha)
  have K_y := Lib.hid (Bk.new w2 24 #[.slice Ay 0 cy, .int .i64 0])
  clear ha hb han
  go_wp2
  go_ret
  exact ⟨rfl, BB.out⟩

/-- What lies there while the single draws go on: the row that is put in order, and the dice as they stand. -/
structure TwoS (W : World) (G Z N q : Nat) (bs : List Int) (n : Nat) (l : List Int) (A : Option Addr) (c : Nat) (w : World) : Prop where
  now : Bk w Z 24 #[.slice A N c, .int .i64 (q : Int)]
  octs : Octs w A N bs
  row : OwnI 3 w G (some ⟨G, 0, none⟩) n l
  len : l.length = n
  below : Below G W w
  gZ : G < Z
  qN : q ≤ N

section
variable {W : World} {G Z N q : Nat} {bs : List Int} {n : Nat} {l : List Int} {A : Option Addr} {c : Nat} {w w' : World}
theorem TwoS.step (s : TwoS W G Z N q bs n l A c w) (hb : Below w.heap.size w w') : TwoS W G Z N q bs n l A c w' :=
  ⟨s.now.below hb s.now.lt, s.octs.below hb, s.row.below hb, s.len, s.below.trans (hb.mono (by have := s.gZ; have := s.now.lt; omega)), s.gZ, s.qN⟩
theorem TwoS.fit (s : TwoS W G Z N q bs n l A c w) (j : Nat) : Fit (nth l j) := by
  rcases Nat.lt_or_ge j l.length with h | h
  · rw [nth_get h]; exact s.row.2.1 _ (List.getElem_mem h)
  · rw [nth_beyond h]; exact fit0
theorem TwoS.set_ (s : TwoS W G Z N q bs n l A c w) {j : Nat} (hj : j < n) {x : Int} (hx : Fit x) : TwoS W G Z N q bs n (l.set j x) A c (w.setCell ⟨G, j, none⟩ (.int .i64 x)) :=
  ⟨s.now.far (by have := s.gZ; simp; omega) _, s.octs.apart (s.row.at_ (by rw [s.len]; exact hj)).1 (by simp) _, s.row.set_ j hx, by rw [List.length_set]; exact s.len, s.below.setCell (by simp) _, s.gZ, s.qN⟩
theorem TwoS.turn (s : TwoS W G Z N q bs n l A c w) {A' : Option Addr} {c' q' : Nat} (ho : Octs w A' N bs) (hq : q' ≤ N) :
    TwoS W G Z N q' bs n l A' c' ((w.setCell ⟨Z, 0, none⟩ (.slice A' N c')).setCell ⟨Z, 1, none⟩ (.int .i64 (q' : Int))) := by
  have hz := s.gZ
  have k1 := s.now.set_ 0 (.slice A' N c')
  have k2 := k1.set_ 1 (.int .i64 (q' : Int))
  refine ⟨by simpa using k2, (ho.apart s.now.c0 (by simp) _).apart (v := .int .i64 (q : Int)) ?_ (by simp) _, (s.row.apart (p := ⟨Z, 0, none⟩) (by simp; omega) _).apart (by simp; omega) _, s.len, (s.below.setCell (by simp; omega) _).setCell (by simp; omega) _, s.gZ, hq⟩
  exact (k1.cell 1).trans rfl
end

theorem below_N (A : Option Addr) (N c q : Nat) (bs : List Int) (m j : Int) (w : World) (ho : Octs w A N bs) (hq : q ≤ N) (hm : 1 ≤ m) (hM : m ≤ 65536) (hj : drawAt bs q % m = j) :
    Calls Try.prog 10 #[.agg #[.slice A N c, .int .i64 (q : Int)], .int .i64 m] w (TripN (.int .i64 j) bs N (min (q + 2) N) w) :=
  (below_ok A N c q bs m w ho hq hm hM).mono fun _ _ h => h.plain ho.1 (by rw [hj]) rfl

/-- The row has become so far its own numbers. -/
def FillS (W : World) (G n k : Nat) (w : World) : Prop := OwnI 3 w G (some ⟨G, 0, none⟩) n (fill n k) ∧ Below G W w

set_option maxRecDepth 100000 in
set_option maxHeartbeats 2000000 in
theorem two_ok (A : Option Addr) (N c p n : Nat) (bs : List Int) (w : World) (ho : Octs w A N bs) (hN : N ≤ 1000) (hp : p ≤ N) (hn : n ≤ 60) :
    Calls Try.prog 8 #[.agg #[.slice A N c, .int .i64 (p : Int)], .int .i64 (n : Int)] w (TrueAns w) := by
  have k2 := Bk.new w 24 #[.slice A N c, .int .i64 (p : Int)]
  have BB := Lib.hid ((Below.refl w.heap.size w).alloc (Nat.le_refl _) (.cells #[.slice A N c, .int .i64 (p : Int)] 24))
  have O_l := Lib.hid (ho.below BB.out)
  have K_d := Lib.hid k2
  obtain ⟨i0, hi, hz0, hz1, hz2⟩ := info_parts Try.intInfo
  have HI := Lib.hid hi
  have HZ := Lib.hid hz0
  have HS := Lib.hid hz1
  have HB := Lib.hid hz2
  clear hi hz0 hz1 hz2 ho k2
  go_enter Try.func8, Try.ntmps8
  go_wp2_with fail
  refine (live_any _).mono ?_
  rintro e w1 ⟨rfl, hb⟩
  have ha := hb
  replace K_d := Lib.hid (K_d.out.below ha K_d.out.lt)
  replace O_l := Lib.hid (O_l.out.below ha)
  replace BB := Lib.hid (below3 BB.out ha)
  clear ha hb
  have a_d := K_d.out.c0
  have b_d := K_d.out.c1
  go_wp2_with fail
  refine (order_N A N c p n bs _ O_l.out hp (by omega)).mono ?_
  rintro e w2 ⟨Ax, cx, By, dy, rfl, hl, hx, hb⟩
  clear a_d b_d
  have ha := hb.alloc hb.size (.cells #[.slice Ax N cx, .int .i64 (min (p + 2 * (n - 1)) N : Nat)] 24)
  have han := (Below.refl w2.heap.size w2).alloc (Nat.le_refl _) (.cells #[.slice Ax N cx, .int .i64 (min (p + 2 * (n - 1)) N : Nat)] 24)
  replace K_d := Lib.hid (K_d.out.below ha K_d.out.lt)
  replace O_l := Lib.hid (O_l.out.below ha)
  replace BB := Lib.hid (below3 BB.out ha)
  have O_o := Lib.hid (hl.below han)
  have O_x := Lib.hid (hx.below han)
  have K_x := Lib.hid (Bk.new w2 24 #[.slice Ax N cx, .int .i64 (min (p + 2 * (n - 1)) N : Nat)])
  clear ha hb han hl hx
  have HQ := Lib.hid (size_alloc w2 (.cells #[.slice Ax N cx, .int .i64 (min (p + 2 * (n - 1)) N : Nat)] 24))
  have OL := Lib.hid (order_len bs p n)
  go_wp2_with (at_make; refine wpList_make_full _ rfl _ _ 25 rfl (w2.heap.size + 1) 3 i0 (.int .i64 0) 1 Try.underlying25 HI.out HZ.out HS.out .i64 .i64 _ _ n rfl rfl rfl rfl (by rw [HB.out]; omega) (by unfold maxLen; omega) (by simp) ?_; intro w5 hown hgrow; have HW := Lib.hid hown; have HG := Lib.hid hgrow; clear hown hgrow)
  generalize w2.alloc (.cells #[.slice Ax N cx, .int .i64 (min (p + 2 * (n - 1)) N : Nat)] 24) = W2 at K_d K_x O_l O_o O_x BB HQ HW HG
  generalize w2.heap.size = X at K_x HQ HW ⊢
  have F0 : Hid (FillS W2 (X + 1) n 0 w5) := by
    refine Lib.hid ⟨?_, (Below.refl _ _).grown HG.out (by rw [HQ.out]; exact Nat.le_refl _) (by simp)⟩
    have h1 := HW.out
    rw [HQ.out] at h1
    rw [fill_zero]
    exact OwnI.zeros (by omega) h1
  clear HW HG HI HZ HS HB
  go_loopw [43] (fun t wr => ∃ k : Nat, k ≤ n ∧ t = .int .i64 k ∧ Hid (FillS W2 (X + 1) n k wr)) (fun t _ => n - (intOf t).toNat)
  case atStart => exact ⟨0, Nat.zero_le _, rfl, F0⟩
  case round =>
    clear F0
    obtain ⟨k, hk, rfl, F⟩ := hrel
    by_cases hlt : k < n
    · obtain ⟨cc, cf⟩ := F.out.1.at_ (j := k) (by rw [fill_len hk]; exact hlt)
      have hE : Hid (FillS W2 (X + 1) n (k + 1) (wr.setCell ⟨X + 1, k, none⟩ (.int .i64 (k : Int)))) :=
        Lib.hid ⟨fill_set hlt ▸ F.out.1.set_ k (by unfold Fit; omega), F.out.2.setCell (Nat.le_refl _) _⟩
      clear F
      go_wp2
      go_roundw
      case rel => exact ⟨k + 1, by omega, by go_num, hE⟩
      case measure => simp [intOf]; omega
    · obtain rfl : k = n := by omega
      have hbw : Below W2.heap.size W2 wr := by rw [HQ.out]; exact F.out.2
      have kd := K_d.out.below hbw K_d.out.lt
      have a_d := kd.c0
      have b_d := kd.c1
      have OD := Lib.hid (O_l.out.below hbw)
      have S0 : Hid (TwoS W2 (X + 1) wr.heap.size N p bs k (upto k) A c (wr.alloc (.cells #[.slice A N c, .int .i64 (p : Int)] 24))) := by
        have hal := (Below.refl wr.heap.size wr).alloc (Nat.le_refl _) (.cells #[.slice A N c, .int .i64 (p : Int)] 24)
        have hsz : X + 1 < wr.heap.size := F.out.1.lt
        exact Lib.hid ⟨Bk.new _ _ _, OD.out.below hal, (fill_all k ▸ F.out.1).below hal, upto_len k, F.out.2.trans (hal.mono (by have := hbw.size; rw [HQ.out] at this; omega)), hsz, hp⟩
      clear kd hbw F hlt hk
      go_wp2
      clear a_d b_d OD
      generalize wr.heap.size = Z at S0 ⊢
      go_loopw [12] (fun t wz => ∃ (i : Int) (q : Nat) (l : List Int) (A' : Option Addr) (c' : Nat), -1 ≤ i ∧ i < 60 ∧ t = .int .i64 i ∧ Hid (TwoS W2 (X + 1) Z N q bs k l A' c' wz) ∧ Hid (i < k ∨ i = -1) ∧ Hid (shuf bs q i.toNat l = orderOf bs p k ∧ min (q + 2 * i.toNat) N = min (p + 2 * (k - 1)) N)) (fun t _ => (intOf t).toNat)
      case atStart => exact ⟨(k : Int) - 1, p, upto k, A, c, by omega, by omega, rfl, S0, Lib.hid (by omega), Lib.hid ⟨by rw [show ((k : Int) - 1).toNat = k - 1 by omega]; rfl, by rw [show ((k : Int) - 1).toNat = k - 1 by omega]⟩⟩
      case round =>
        clear S0
        obtain ⟨i, q, l, A', c', hi0, hi1, rfl, S, HI, HF⟩ := hrel
        by_cases hlt : 0 < i
        · obtain ⟨m, rfl⟩ : ∃ m : Nat, i = (m : Int) + 1 := ⟨(i - 1).toNat, by omega⟩
          have hpl := place_lt bs q m
          have e2 : (m : Int) + 1 + 1 = (m : Int) + 2 := by omega
          obtain ⟨j, hj⟩ : ∃ j : Nat, drawAt bs q % ((m : Int) + 1 + 1) = (j : Int) := ⟨(drawAt bs q % ((m : Int) + 2)).toNat, by rw [e2]; omega⟩
          have hjm : (j : Int) ≤ (m : Int) + 1 := by rw [e2] at hj; omega
          have HE : Hid (shuf bs (min (q + 2) N) m (swap l (m + 1) j) = orderOf bs p k ∧ min (min (q + 2) N + 2 * m) N = min (p + 2 * (k - 1)) N) := by
            obtain ⟨f1, f2⟩ := HF.out
            rw [show ((m : Int) + 1).toNat = m + 1 by omega] at f1 f2
            rw [shuf, ← e2, hj] at f1
            refine Lib.hid ⟨?_, by omega⟩
            rw [S.out.octs.1] at f1
            simpa using f1
          have HJ := Lib.hid hj
          have hmk : (m : Int) + 1 < k := by have := HI.out; omega
          have hj0 : (0 : Int) ≤ (j : Int) := by omega
          have hjk : (j : Int) < (k : Int) := by omega
          clear hpl e2 hj HF HI
          have a_z := S.out.now.c0
          have b_z := S.out.now.c1
          go_wp2_with fail
          refine (below_N A' N c' q bs ((m : Int) + 1 + 1) j _ S.out.octs S.out.qN (by omega) (by omega) HJ.out).mono ?_
          rintro e w6 ⟨A2, c2, rfl, ho2, hb⟩
          clear a_z b_z
          have hal := (Below.refl w6.heap.size w6).alloc (Nat.le_refl _) (.cells #[.slice A2 N c2, .int .i64 (min (q + 2) N : Nat)] 24)
          have S6 := Lib.hid (S.out.step (hb.alloc hb.size (.cells #[.slice A2 N c2, .int .i64 (min (q + 2) N : Nat)] 24)))
          have O2 := Lib.hid (ho2.below hal)
          have hGz : X + 1 < Z := S.out.gZ
          have hZw : Z < w6.heap.size := Nat.lt_of_lt_of_le S.out.now.lt hb.size
          have g1 : ¬ (X + 1 = w6.heap.size) := by omega
          have g2 : ¬ (X + 1 = Z) := by omega
          have g3 : ¬ (Z = w6.heap.size) := by omega
          obtain ⟨c1, f1⟩ := S6.out.row.at_ (j := m + 1) (by rw [S6.out.len]; omega)
          obtain ⟨c2', f2⟩ := S6.out.row.at_ (j := j) (by rw [S6.out.len]; omega)
          have z0 := S6.out.now.c0
          have z1 := S6.out.now.c1
          have y0 := S6.out.now.frozen 0
          have y1 := S6.out.now.frozen 1
          have T6 := S6.out.set_ (j := m + 1) (by omega) (S6.out.fit j)
          have T7 := T6.set_ (j := j) (by omega) (S6.out.fit (m + 1))
          have O7 := (O2.out.apart (S6.out.row.at_ (j := m + 1) (by rw [S6.out.len]; omega)).1 (by simp) (.int .i64 (nth l j))).apart (T6.row.at_ (j := j) (by rw [T6.len]; omega)).1 (by simp) (.int .i64 (nth l (m + 1)))
          have HT := Lib.hid (T7.turn (c' := c2) O7 (q' := min (q + 2) N) (by omega))
          clear hb S ho2 hal T6 T7 O7 O2 S6
          by_cases hne : j = m + 1
          · subst hne
            go_wp2
            clear c1 f1 c2' f2 z0 z1 y0 y1 g1 g2 g3
            go_roundw
            case rel => exact ⟨(m : Int), min (q + 2) N, swap l (m + 1) (m + 1), A2, c2, by omega, by omega, by go_num, HT, Lib.hid (by omega), HE⟩
            case measure => simp [intOf] <;> omega
          · go_wp2
            clear c1 f1 c2' f2 z0 z1 y0 y1 g1 g2 g3
            go_roundw
            case rel => exact ⟨(m : Int), min (q + 2) N, swap l (m + 1) j, A2, c2, by omega, by omega, by go_num, HT, Lib.hid (by omega), HE⟩
            case measure => simp [intOf] <;> omega
        · clear hi1
          have hF := HF.out
          have he : i.toNat = 0 := by omega
          rw [he] at hF
          have hl : l = orderOf bs p k := hF.1
          have hq : q = min (p + 2 * (k - 1)) N := by have := hF.2; have := S.out.qN; omega
          clear hF he HF
          subst hl hq
          have hbz : Below W2.heap.size W2 wr := by rw [HQ.out]; exact S.out.below
          have I1 := Lib.hid (O_o.out.below hbz)
          have I2 := S.out.row.ints
          rw [S.out.len] at I2
          have I2 := Lib.hid I2
          have OX := Lib.hid (O_x.out.below hbz)
          have KX := Lib.hid (K_x.out.below hbz K_x.out.lt)
          have BZ := Lib.hid (BB.out.trans (hbz.mono BB.out.size))
          clear hbz
          go_wp2_with fail
          refine (sameInts_yes _ _ k _ _ _ _ I1.out I2.out).mono ?_
          rintro e w7 ⟨rfl, hb7⟩
          have kz := S.out.now.below hb7 S.out.now.lt
          have a_z := kz.c0
          have b_z := kz.c1
          have kx := KX.out.below hb7 KX.out.lt
          have a_x := kx.c0
          have b_x := kx.c1
          have o1 := Lib.hid (S.out.octs.below hb7)
          have o2 := Lib.hid (OX.out.below hb7)
          have BZ7 := Lib.hid (below3 BZ.out hb7)
          clear hb7 kz kx
          go_wp2_with fail
          refine (same_yes _ _ N _ _ _ bs _ o1.out o2.out).mono ?_
          rintro e w8 ⟨rfl, hb8⟩
          have BZ8 := Lib.hid (below3 BZ7.out hb8)
          clear hb8 a_z b_z a_x b_x
          go_wp2
          go_ret
          exact ⟨rfl, BZ8.out⟩

theorem two_any (A : Option Addr) (N c : Nat) (p m : Int) (bs : List Int) (w : World) (hM : N ≤ 9223372036854775807) (ho : N ≤ 140737488351232 → Octs w A N bs) :
    Calls Try.prog 8 #[.agg #[.slice A N c, .int .i64 p], .int .i64 m] w (TrueAns w) := by
  by_cases hN : 1000 < N ∨ 60 < m
  · exact two_big A N c p m w hM hN
  · by_cases h : 0 ≤ p ∧ p ≤ N ∧ 0 ≤ m ∧ m ≤ 256
    · obtain ⟨h0, h1, h2, h3⟩ := h
      obtain ⟨p, rfl⟩ := Int.eq_ofNat_of_zero_le h0
      obtain ⟨m, rfl⟩ := Int.eq_ofNat_of_zero_le h2
      exact two_ok A N c p m bs w (ho (by omega)) (by omega) (by omega) (by omega)
    · exact two_no A N c p m w (by omega) (by omega) h

end Go.Proofs.Ytllanhboaoedmaa

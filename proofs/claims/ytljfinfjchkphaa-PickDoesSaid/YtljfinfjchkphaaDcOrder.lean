/-
  The contract of dice.Order: an order is drawn, and the dice then; and of dice that may not be, and lengths that may not be.
-/
import Derived.Test.YtljfinfjchkphaaDcBelow
import Derived.LoopTactic
import Derived.RegionTactic
import Derived.BigRegion
namespace Go.Proofs.Ytljfinfjchkphaa
open Go.RowKit

theorem Try.intInfo : (Try.prog.info? 3).map (fun i => (i.zero, i.size, i.bytes)) = some (some (.int .i64 0), 1, 8) := by kernel_rfl

/-- An order, dice, an error are handed back, all in memory of the call's own. -/
def OrdD (l bs : List Int) (p err : Int) (w : World) (e : Ending) (w' : World) : Prop :=
  ∃ A c B d, e = .returned (.tuple #[.slice B l.length d, .agg #[.slice A bs.length c, .int .i64 p], .int .i64 err]) ∧ OwnI 3 w' w.heap.size B d l ∧ OwnO 5 w' w.heap.size A c bs ∧ Below w.heap.size w w'

theorem ord_none {err : Int} {w w' : World} (hb : Below w.heap.size w w') : OrdD [] [] 0 err w (.returned (.tuple #[.slice none 0 0, .agg #[.slice none 0 0, .int .i64 0], .int .i64 err])) w' :=
  ⟨none, 0, none, 0, rfl, OwnI.nil_ _ _ _, OwnO.nil_ _ _ _, hb⟩

set_option maxHeartbeats 1000000 in
theorem order_no (A : Option Addr) (n c : Nat) (p m : Int) (w : World) (hn : n ≤ 140737488351232) (h : ¬ (0 ≤ p ∧ p ≤ n ∧ 0 ≤ m ∧ m ≤ 256)) :
    Calls Try.prog 21 #[.agg #[.slice A n c, .int .i64 p], .int .i64 m] w (OrdD [] [] 0 1 w) := by
  obtain ⟨k2, k5, b0⟩ := lies2 w #[.slice A n c, .int .i64 p] #[.slice none 0 0, .int .i64 0] 24 24
  by_cases hp : 0 ≤ p ∧ p ≤ n
  · go_enter Try.func21, Try.ntmps21
    go_wp2_with fail
    refine (check_ok A n c p _ hp.1 hp.2).mono ?_
    rintro e w1 ⟨rfl, hb1⟩
    have k51 := k5.below hb1 k5.lt
    have b1 := Lib.hid (below3 b0 hb1)
    have q0 := k51.c0
    have q1 := k51.c1
    have f0 := k51.frozen 0
    have f1 := k51.frozen 1
    have hM : m < 0 ∨ 256 < m := by omega
    clear hb1 k2 k5 b0 k51
    have HB := Lib.hid ((b1.out.setCell (p := ⟨w.heap.size + 1, 0, none⟩) (by simp) (.slice none 0 0)).setCell (p := ⟨w.heap.size + 1, 1, none⟩) (by simp) (.int .i64 0))
    rcases hM with hM | hM
    all_goals
      go_wp2
      exact bodyPost_ret (v := .tuple #[.slice none 0 0, .agg #[.slice none 0 0, .int .i64 0], .int .i64 1]) (by simp [results, Try.results21, go_sem, *]) rfl (ord_none HB.out)
  · go_enter Try.func21, Try.ntmps21
    go_wp2_with fail
    refine (check_no A n c p _ (by omega) hn).mono ?_
    rintro e w1 ⟨rfl, hb1⟩
    have k51 := k5.below hb1 k5.lt
    have b1 := Lib.hid (below3 b0 hb1)
    have q0 := k51.c0
    have q1 := k51.c1
    have f0 := k51.frozen 0
    have f1 := k51.frozen 1
    clear hb1 k2 k5 b0 k51
    have HB := Lib.hid ((b1.out.setCell (p := ⟨w.heap.size + 1, 0, none⟩) (by simp) (.slice none 0 0)).setCell (p := ⟨w.heap.size + 1, 1, none⟩) (by simp) (.int .i64 0))
    go_wp2
    exact bodyPost_ret (v := .tuple #[.slice none 0 0, .agg #[.slice none 0 0, .int .i64 0], .int .i64 1]) (by simp [results, Try.results21, go_sem, *]) rfl (ord_none HB.out)

/-- So many places have their own number, the others 0. -/
def fill (n k : Nat) : List Int := upto k ++ List.replicate (n - k) 0

theorem fill_zero (n : Nat) : fill n 0 = List.replicate n 0 := by simp [fill, upto]
theorem fill_all (n : Nat) : fill n n = upto n := by simp [fill]
theorem fill_len {n k : Nat} (h : k ≤ n) : (fill n k).length = n := by simp [fill, upto_len]; omega
theorem upto_succ (k : Nat) : upto (k + 1) = upto k ++ [(k : Int)] := by simp [upto, List.range_succ]
theorem fill_set {n k : Nat} (h : k < n) : (fill n k).set k (k : Int) = fill n (k + 1) := by
  unfold fill
  rw [List.set_append_right _ _ (by rw [upto_len]; omega), upto_len, Nat.sub_self, upto_succ, List.append_assoc]
  have e : n - k = (n - (k + 1)) + 1 := by omega
  rw [e, List.replicate_succ]
  simp

/-- What lies there while an order is drawn: the place of the result, the dice, the closure, the order's row. -/
structure OrdS (w0 : World) (r g h G : Nat) (A : Option Addr) (N c q : Nat) (bs : List Int) (n : Nat) (l : List Int) (w : World) : Prop where
  res : Bk w r 24 #[.slice none 0 0, .int .i64 0]
  ds : DS w g A N c q bs
  clo : Bk w h 63 #[.func (.func 44) #[] #[.pointer (some ⟨g, 0, none⟩)]]
  row : OwnI 3 w G (some ⟨G, 0, none⟩) n l
  len : l.length = n
  below : Below w0.heap.size w0 w
  octs : Octs w0 A N bs
  r0 : w0.heap.size ≤ r
  rg : r < g
  gG : g < G
  hG : h < G

theorem OrdS.set_ {w0 : World} {r g h G : Nat} {A : Option Addr} {N c q : Nat} {bs : List Int} {n : Nat} {l : List Int} {w : World} (s : OrdS w0 r g h G A N c q bs n l w) (j : Nat) {x : Int} (hx : Fit x) :
    OrdS w0 r g h G A N c q bs n (l.set j x) (w.setCell ⟨G, j, none⟩ (.int .i64 x)) := by
  have hr := s.rg
  have hg := s.gG
  have hh := s.hG
  have h0 := s.r0
  refine ⟨s.res.far (by simp; omega) _, ⟨s.ds.1.far (by simp; omega) _, s.octs.below (s.below.setCell (by simp; omega) _), s.ds.2.2⟩, s.clo.far (by simp; omega) _, s.row.set_ j hx, by rw [List.length_set]; exact s.len, s.below.setCell (by simp; omega) _, s.octs, s.r0, s.rg, s.gG, s.hG⟩

theorem OrdS.fit {w0 : World} {r g h G : Nat} {A : Option Addr} {N c q : Nat} {bs : List Int} {n : Nat} {l : List Int} {w : World} (s : OrdS w0 r g h G A N c q bs n l w) (j : Nat) : Fit (nth l j) := by
  rcases Nat.lt_or_ge j l.length with h | h
  · rw [nth_get h]; exact s.row.2.1 _ (List.getElem_mem h)
  · rw [nth_beyond h]; exact fit0

theorem OrdS.drew {w0 : World} {r g h G : Nat} {A : Option Addr} {N c q : Nat} {bs : List Int} {n : Nat} {l : List Int} {w : World} (s : OrdS w0 r g h G A N c q bs n l w) : OrdS w0 r g h G A N c q bs n l w.drew :=
  ⟨s.res, s.ds, s.clo, s.row, s.len, s.below.drew, s.octs, s.r0, s.rg, s.gG, s.hG⟩

theorem OrdS.grown {w0 : World} {r g h G : Nat} {A : Option Addr} {N c q q' : Nat} {bs : List Int} {n : Nat} {l : List Int} {w w' : World} (s : OrdS w0 r g h G A N c q bs n l w) (hd : DS w' g A N c q' bs) (hg : w.grownBy w' (some g)) :
    OrdS w0 r g h G A N c q' bs n l w' := by
  have h1 := s.rg
  have h2 := s.gG
  have h3 := s.r0
  have hgh : h ≠ g := by
    rintro rfl
    have h1 : w.heap[h]? = _ := s.ds.1
    have h2 : w.heap[h]? = _ := s.clo
    rw [h1] at h2
    simp at h2
  refine ⟨s.res.grown hg (by simp; omega), hd, s.clo.grown hg (by simpa using hgh), ⟨s.row.1, s.row.2.1, s.row.2.2.kept hg (.inr (by simp [Value.ownBlock]; omega))⟩, s.len, s.below.grown hg s.below.size (by intro k hk; injection hk; omega), s.octs, s.r0, s.rg, s.gG, s.hG⟩

set_option maxHeartbeats 2000000 in
theorem order_ok (A : Option Addr) (N c p n : Nat) (bs : List Int) (w : World) (ho : Octs w A N bs) (hp : p ≤ N) (hn : n ≤ 256) :
    Calls Try.prog 21 #[.agg #[.slice A N c, .int .i64 (p : Int)], .int .i64 (n : Int)] w (OrdD (orderOf bs p n) bs (min (p + 2 * (n - 1)) N : Nat) 0 w) := by
  obtain ⟨k2, k5, b0⟩ := lies2 w #[.slice A N c, .int .i64 (p : Int)] #[.slice none 0 0, .int .i64 0] 24 24
  have HO := Lib.hid ho
  have hp' : (p : Int) ≤ (N : Int) := by omega
  have hp0 : (0 : Int) ≤ (p : Int) := by omega
  obtain ⟨i0, hi, hz0, hz1, hz2⟩ := info_parts Try.intInfo
  have HI := Lib.hid hi
  have HZ := Lib.hid hz0
  have HS := Lib.hid hz1
  have HB := Lib.hid hz2
  clear hi hz0 hz1 hz2 ho
  go_enter Try.func21, Try.ntmps21
  go_wp2_with fail
  refine (check_ok A N c p _ hp0 hp').mono ?_
  rintro e w1 ⟨rfl, hb1⟩
  have k21 := k2.below hb1 k2.lt
  have k51 := k5.below hb1 k5.lt
  have b1 := below3 b0 hb1
  have q0 := k21.c0
  have q1 := k21.c1
  clear hb1 k2 k5 b0
  have HZ1 := Lib.hid k51.lt
  have K5 := Lib.hid k51
  have B1 := Lib.hid b1
  clear k21 k51 b1
  go_wp2_with fail
  refine (draws_any A N c p bs _ (HO.out.below B1.out) hp).mono ?_
  rintro e w2 ⟨g, h, rfl, hs, hk, hg, hh, hb2⟩
  have K5 := Lib.hid (K5.out.below hb2 K5.out.lt)
  have lt5 : w.heap.size + 1 < g := by have := B1.out.size; have := HZ1.out; omega
  have B2 := Lib.hid (below3 B1.out hb2)
  have D2 := Lib.hid hs
  have C2 := Lib.hid hk
  clear hb2 q0 q1 hs hk
  go_wp2_with (at_make; refine wpList_make_full _ rfl _ _ 25 rfl w2.heap.size 3 i0 (.int .i64 0) 1 Try.underlying25 HI.out HZ.out HS.out .i64 .i64 _ _ n rfl rfl rfl rfl (by rw [HB.out]; omega) (by unfold maxLen; omega) (Nat.le_refl _) ?_; intro w3 hown hgrow; have HW := Lib.hid hown; have HG := Lib.hid hgrow; clear hown hgrow)
  have S0 : OrdS w (w.heap.size + 1) g h w2.heap.size A N c p bs n (fill n 0) w3 := by
    have hg0 := HG.out
    have hlt := D2.out.1.lt
    have hlt' := C2.out.lt
    refine ⟨K5.out.grown hg0 (by simp), ⟨D2.out.1.grown hg0 (by simp), ?_, hp⟩, C2.out.grown hg0 (by simp), ?_, fill_len (Nat.zero_le _), ?_, HO.out, by omega, lt5, hlt, hlt'⟩
    · exact HO.out.below (B2.out.grown hg0 B2.out.size (by simp))
    · rw [fill_zero]; exact OwnI.zeros (by omega) HW.out
    · exact B2.out.grown hg0 B2.out.size (by simp)
  clear HW HG D2 C2 B2 K5 B1 HZ1 hg hh HI HZ HS HB lt5
  generalize w2.heap.size = G at S0 ⊢
  have S0 := Lib.hid S0
  go_loopw [33] (fun t wr => ∃ k : Nat, k ≤ n ∧ t = .int .i64 k ∧ Hid (OrdS w (w.heap.size + 1) g h G A N c p bs n (fill n k) wr)) (fun t _ => n - (intOf t).toNat)
  case atStart => exact ⟨0, Nat.zero_le _, rfl, S0⟩
  case round =>
    clear S0
    obtain ⟨k, hk, rfl, S⟩ := hrel
    by_cases hlt : k < n
    · obtain ⟨cc, cf⟩ := S.out.row.at_ (j := k) (by rw [fill_len hk]; exact hlt)
      have hE : Hid (OrdS w (w.heap.size + 1) g h G A N c p bs n (fill n (k + 1)) (wr.setCell ⟨G, k, none⟩ (.int .i64 (k : Int)))) :=
        Lib.hid (fill_set hlt ▸ S.out.set_ k (by unfold Fit; omega))
      clear S
      go_wp2
      go_roundw
      case rel => exact ⟨k + 1, by omega, by go_num, hE⟩
      case measure => simp [intOf]; omega
    · obtain rfl : k = n := by omega
      have S := Lib.hid (fill_all k ▸ S.out)
      go_wp2
      clear hn hlt hk
      go_loopw [11] (fun t wr => ∃ (i : Int) (q : Nat) (l : List Int), -1 ≤ i ∧ i < 256 ∧ t = .int .i64 i ∧ Hid (OrdS w (w.heap.size + 1) g h G A N c q bs k l wr) ∧ Hid (i < k ∨ i = -1) ∧ Hid (shuf bs q i.toNat l = orderOf bs p k ∧ min (q + 2 * i.toNat) N = min (p + 2 * (k - 1)) N)) (fun t _ => (intOf t).toNat)
      case atStart => exact ⟨(k : Int) - 1, p, upto k, by omega, by omega, rfl, S, Lib.hid (by omega), Lib.hid ⟨by rw [show ((k : Int) - 1).toNat = k - 1 by omega]; rfl, by rw [show ((k : Int) - 1).toNat = k - 1 by omega]⟩⟩
      case round =>
        clear S
        obtain ⟨i, q, l, hi0, hi1, rfl, S, HI, HF⟩ := hrel
        by_cases hlt : 0 < i
        · obtain ⟨m, rfl⟩ : ∃ m : Nat, i = (m : Int) + 1 := ⟨(i - 1).toNat, by omega⟩
          have hpl := place_lt bs q m
          have e2 : (m : Int) + 1 + 1 = (m : Int) + 2 := by omega
          obtain ⟨j, hj⟩ : ∃ j : Nat, drawAt bs q % ((m : Int) + 1 + 1) = (j : Int) := ⟨(drawAt bs q % ((m : Int) + 2)).toNat, by rw [e2]; omega⟩
          have hjm : j ≤ m + 1 := by rw [e2] at hj; omega
          have HE : Hid (shuf bs (min (q + 2) N) m (swap l (m + 1) j) = orderOf bs p k ∧ min (min (q + 2) N + 2 * m) N = min (p + 2 * (k - 1)) N) := by
            obtain ⟨f1, f2⟩ := HF.out
            rw [show ((m : Int) + 1).toNat = m + 1 by omega] at f1 f2
            rw [shuf, ← e2, hj] at f1
            refine Lib.hid ⟨?_, by omega⟩
            rw [S.out.octs.1] at f1
            simpa using f1
          have HJ := Lib.hid hj
          have hmk : (m : Int) + 1 < k := by have := HI.out; omega
          clear hpl e2 hj HF HI
          go_wp2_with fail
          refine (draw_as g h A N c q bs ((m : Int) + 1 + 1) j _ S.out.ds S.out.clo (by omega) HJ.out).mono ?_
          rintro e w5 ⟨rfl, hs5, hg5⟩
          have S5 := Lib.hid (S.out.grown hs5 hg5)
          clear hs5 hg5 S
          obtain ⟨c1, f1⟩ := S5.out.row.at_ (j := m + 1) (by rw [S5.out.len]; omega)
          obtain ⟨c2, f2⟩ := S5.out.row.at_ (j := j) (by rw [S5.out.len]; omega)
          have ST := Lib.hid ((S5.out.set_ (m + 1) (S5.out.fit j)).set_ j (S5.out.fit (m + 1))).drew
          have hjk : (j : Int) < k := by omega
          have hj0 : (0 : Int) ≤ j := by omega
          go_wp2_with fail
          by_cases hne : j = m + 1
          · subst hne
            go_region
            clear c1 f1 c2 f2 S5
            go_wp2
            go_roundw
            case rel => exact ⟨(m : Int), min (q + 2) N, swap l (m + 1) (m + 1), by omega, by omega, by go_num, ST, Lib.hid (by omega), HE⟩
            case measure => simp [intOf] <;> omega
          · go_region
            clear c1 f1 c2 f2 S5
            go_wp2
            go_roundw
            case rel => exact ⟨(m : Int), min (q + 2) N, swap l (m + 1) j, by omega, by omega, by go_num, ST, Lib.hid (by omega), HE⟩
            case measure => simp [intOf] <;> omega
        · clear hi1
          have hF := HF.out
          have he : i.toNat = 0 := by omega
          rw [he] at hF
          have hl : l = orderOf bs p k := hF.1
          have hq : q = min (p + 2 * (k - 1)) N := by have := hF.2; have := S.out.ds.2.2; omega
          clear hF he HF
          subst hl hq
          go_wp2_with fail
          refine (then_any g A N c _ bs _ S.out.ds).mono ?_
          rintro e w4 ⟨A', c', rfl, hown, hb4⟩
          have k5 := S.out.res.below hb4 S.out.res.lt
          have c0 := k5.c0
          have c1 := k5.c1
          have f0 := k5.frozen 0
          have f1 := k5.frozen 1
          have HB := Lib.hid (((below3 S.out.below hb4).setCell (p := ⟨w.heap.size + 1, 0, none⟩) (by simp) (.slice A' bs.length c')).setCell (p := ⟨w.heap.size + 1, 1, none⟩) (by simp) (.int .i64 (min (p + 2 * (k - 1)) N : Nat)))
          have HN := Lib.hid (((hown.far (p := ⟨w.heap.size + 1, 0, none⟩) S.out.res.lt (.slice A' bs.length c')).far (p := ⟨w.heap.size + 1, 1, none⟩) S.out.res.lt (.int .i64 (min (p + 2 * (k - 1)) N : Nat))).base S.out.below.size)
          have hrG : w.heap.size + 1 < G := Nat.lt_trans S.out.rg S.out.gG
          have HW := Lib.hid ((((S.out.row.below hb4).far (p := ⟨w.heap.size + 1, 0, none⟩) hrG (.slice A' bs.length c')).far (p := ⟨w.heap.size + 1, 1, none⟩) hrG (.int .i64 (min (p + 2 * (k - 1)) N : Nat))).base (Nat.le_trans (Nat.le_succ _) (Nat.le_of_lt hrG)))
          clear hb4 hown k5 S
          go_wp2
          exact bodyPost_ret (v := .tuple #[.slice (some ⟨G, 0, none⟩) k k, .agg #[.slice A' bs.length c', .int .i64 (min (p + 2 * (k - 1)) N : Nat)], .int .i64 0]) (by simp [results, Try.results21, go_sem, *]) rfl ⟨A', c', some ⟨G, 0, none⟩, k, by rw [order_len], HW.out, HN.out, HB.out⟩

end Go.Proofs.Ytljfinfjchkphaa

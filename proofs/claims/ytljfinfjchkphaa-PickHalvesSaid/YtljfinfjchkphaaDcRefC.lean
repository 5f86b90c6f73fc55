/-
  The document's answer of layer 3: the contract of Order.
-/
import Derived.Test.YtljfinfjchkphaaDcRefB
import Derived.Test.YtljfinfjchkphaaDcOrder
namespace Go.Proofs.Ytljfinfjchkphaa
open Go.RowKit

/-- What lies there while the document's order is drawn. -/
structure RefS (w0 : World) (N q : Nat) (bs : List Int) (n : Nat) (l : List Int) (A : Option Addr) (c : Nat) (B : Option Addr) (d : Nat) (w : World) : Prop where
  box : Bk w w0.heap.size 24 #[.slice A N c, .int .i64 (q : Int)]
  res : Bk w (w0.heap.size + 1) 24 #[.slice none 0 0, .int .i64 0]
  own : OwnO 5 w (w0.heap.size + 2) A c bs
  lenO : bs.length = N
  row : OwnI 3 w (w0.heap.size + 2) B d l
  len : l.length = n
  below : Below w0.heap.size w0 w
  qN : q ≤ N

section
variable {w0 : World} {N q : Nat} {bs : List Int} {n : Nat} {l : List Int} {A : Option Addr} {c : Nat} {B : Option Addr} {d : Nat} {w w' : World}
theorem RefS.step (s : RefS w0 N q bs n l A c B d w) (hb : Below w.heap.size w w') : RefS w0 N q bs n l A c B d w' :=
  ⟨s.box.below hb s.box.lt, s.res.below hb s.res.lt, s.own.below hb, s.lenO, s.row.below hb, s.len, below3 s.below hb, s.qN⟩
theorem RefS.drew (s : RefS w0 N q bs n l A c B d w) : RefS w0 N q bs n l A c B d w.drew :=
  ⟨s.box, s.res, s.own, s.lenO, s.row, s.len, s.below.drew, s.qN⟩
theorem RefS.octs (s : RefS w0 N q bs n l A c B d w) : Octs w A N bs := by
  have := s.own.octs
  rwa [s.lenO] at this
theorem RefS.fit (s : RefS w0 N q bs n l A c B d w) (j : Nat) : Fit (nth l j) := by
  rcases Nat.lt_or_ge j l.length with h | h
  · rw [nth_get h]; exact s.row.2.1 _ (List.getElem_mem h)
  · rw [nth_beyond h]; exact fit0
/-- The row has grown, or lies elsewhere. -/
theorem RefS.more (s : RefS w0 N q bs n l A c B d w) {l' : List Int} {B' : Option Addr} {d' n' m : Nat} (hg : w.grownBy w' (Value.slice B m d).ownBlock) (hr : OwnI 3 w' (w0.heap.size + 2) B' d' l') (hl : l'.length = n') : RefS w0 N q bs n' l' A c B' d' w' := by
  have hbl := s.row.block (n := m) (d := d)
  exact ⟨s.box.grown hg (fun e => by have := hbl _ e.symm; omega), s.res.grown hg (fun e => by have := hbl _ e.symm; omega), ⟨s.own.1, s.own.2.1, s.own.2.2.kept hg (rows_ne s.own s.row (by decide))⟩, s.lenO, hr, hl, s.below.grown hg s.below.size (fun k hk => by have := hbl _ hk; omega), s.qN⟩
theorem RefS.set_ {g : Nat} (s : RefS w0 N q bs n l A c (some ⟨g, 0, none⟩) d w) (j : Nat) {x : Int} (hx : Fit x) : RefS w0 N q bs n (l.set j x) A c (some ⟨g, 0, none⟩) d (w.setCell ⟨g, j, none⟩ (.int .i64 x)) :=
  s.more (m := 0) (by have := grown_set (w := w) (g := g) (i := j) (.int .i64 x); simpa [Value.ownBlock] using this) (s.row.set_ j hx) (by rw [List.length_set]; exact s.len)
theorem RefS.turn (s : RefS w0 N q bs n l A c B d w) {A' : Option Addr} {c' q' : Nat} (ho : OwnO 5 w (w0.heap.size + 2) A' c' bs) (hq : q' ≤ N) :
    RefS w0 N q' bs n l A' c' B d ((w.setCell ⟨w0.heap.size, 0, none⟩ (.slice A' N c')).setCell ⟨w0.heap.size, 1, none⟩ (.int .i64 (q' : Int))) := by
  have k1 := s.box.set_ 0 (.slice A' N c')
  have k2 := k1.set_ 1 (.int .i64 (q' : Int))
  exact ⟨by simpa using k2, (s.res.far (by simp) _).far (by simp) _, (ho.far (p := ⟨w0.heap.size, 0, none⟩) (by simp) _).far (by simp) _, s.lenO, (s.row.far (p := ⟨w0.heap.size, 0, none⟩) (by simp) _).far (by simp) _, s.len, (s.below.setCell (by simp) _).setCell (by simp) _, hq⟩
end

theorem rbelow_as (A : Option Addr) (n c p : Nat) (bs : List Int) (m j : Int) (w : World) (ho : Octs w A n bs) (hN : n ≤ 1000) (hp : p ≤ n) (hm : 1 ≤ m) (hM : m ≤ 65536) (hj : drawAt bs p % m = j) :
    Calls Try.prog 37 #[.agg #[.slice A n c, .int .i64 (p : Int)], .int .i64 m] w fun e w' => ∃ A' c', e = .returned (.tuple #[.int .i64 j, .agg #[.slice A' n c', .int .i64 (min (p + 2) n : Nat)], .int .i64 0]) ∧ OwnO 5 w' w.heap.size A' c' bs ∧ Below w.heap.size w w' := by
  have h := rbelow_ok A n c p bs m w ho hN hp hm hM
  rw [hj] at h
  refine h.mono fun e w' ⟨A', c', h1, h2, h3⟩ => ⟨A', c', ?_, h2, h3⟩
  rw [h1, ho.1]

set_option maxRecDepth 100000 in
set_option maxHeartbeats 4000000 in
theorem rorder_ok (A : Option Addr) (N c p n : Nat) (bs : List Int) (w : World) (ho : Octs w A N bs) (hN : N ≤ 1000) (hp : p ≤ N) (hn : n ≤ 256) :
    Calls Try.prog 25 #[.agg #[.slice A N c, .int .i64 (p : Int)], .int .i64 (n : Int)] w (OrdD (orderOf bs p n) bs (min (p + 2 * (n - 1)) N : Nat) 0 w) := by
  obtain ⟨k2, k5, b0⟩ := lies2 w #[.slice A N c, .int .i64 (p : Int)] #[.slice none 0 0, .int .i64 0] 24 24
  have HO := Lib.hid ho
  have HL := Lib.hid ho.1
  have hp' : (p : Int) ≤ (N : Int) := by omega
  have hp0 : (0 : Int) ≤ (p : Int) := by omega
  clear ho
  go_enter Try.func25, Try.ntmps25
  go_wp2_with fail
  refine (rcheck_ok A N c p _ hp0 hp').mono ?_
  rintro e w1 ⟨rfl, hb1⟩
  have k21 := k2.below hb1 k2.lt
  have k51 := k5.below hb1 k5.lt
  have b1 := below3 b0 hb1
  have q0 := k21.c0
  have q1 := k21.c1
  clear hb1 k2 k5 b0
  have hsz : w.heap.size + 2 ≤ w1.heap.size := k51.lt
  have K2 := Lib.hid k21
  have K5 := Lib.hid k51
  have B1 := Lib.hid b1
  clear k21 k51 b1
  go_wp2_with (at_builtin; refine wpList_append_octs _ rfl _ _ 22 rfl 5 Try.underlying22 Try.octetInfo (w.heap.size + 2) none 0 [] 0 rfl rfl (OwnO.nil_ _ _ _) A N c bs rfl (HO.out.below B1.out) (by simp; omega) hsz ?_; intro X2 d2 w2 hown2 hg2; simp only [List.nil_append] at hown2 ⊢; rw [HL.out]; have P2 := Lib.hid hown2; have G2 := Lib.hid hg2; have k22 := K2.out.grown hg2 (by simp [Value.ownBlock]); have r0 := k22.c0; have f0 := k22.frozen 0; clear hown2 hg2 k22)
  have S0 : Hid (RefS w N p bs 0 [] X2 d2 none 0 (w2.setCell ⟨w.heap.size, 0, none⟩ (.slice X2 N d2))) := by
    have k22 := (K2.out.grown G2.out (by simp [Value.ownBlock])).set_ 0 (.slice X2 N d2)
    have k52 := (K5.out.grown G2.out (by simp [Value.ownBlock])).far (p := ⟨w.heap.size, 0, none⟩) (by simp) (.slice X2 N d2)
    exact Lib.hid ⟨by simpa using k22, k52, P2.out.far (by simp) _, HL.out, OwnI.nil_ _ _ _, rfl, (B1.out.grown G2.out B1.out.size (by simp [Value.ownBlock])).setCell (by simp) _, hp⟩
  clear q0 q1 r0 f0 K2 K5 B1 P2 G2 hsz
  go_loopw [7, 31] (fun v t wr => ∃ (k : Nat) (B : Option Addr) (d : Nat), k ≤ n ∧ t = .int .i64 k ∧ v = .slice B k d ∧ Hid (RefS w N p bs k (upto k) X2 d2 B d wr)) (fun _ t _ => n - (intOf t).toNat)
  case atStart => exact ⟨0, none, 0, Nat.zero_le _, rfl, rfl, S0⟩
  case round =>
    clear S0
    obtain ⟨k, B, d, hk, rfl, rfl, S⟩ := hrel
    by_cases hlt : k < n
    · have hsz : w.heap.size + 1 < wr.heap.size := S.out.res.lt
      go_wp2_with (at_builtin; refine wpList_append_ints _ rfl _ _ 25 rfl 3 Try.underlying25 Try.intInfo (w.heap.size + 2) _ _ (upto k) _ (upto_len k).symm rfl (S.out.row.below ((Below.refl _ _).alloc (Nat.le_refl _) _)) _ _ _ [(k : Int)] rfl (ints1 _ _ (by unfold Fit; omega)) (by rw [upto_len]; omega) (by simp; omega) ?_; intro B' d' w3 ho hg; rw [← upto_succ, upto_len]; rw [← upto_succ] at ho; have hst := S.out.step ((Below.refl wr.heap.size wr).alloc (Nat.le_refl _) (.cells #[.int .i64 (k : Int)] 3)); have SE := Lib.hid (hst.more hg ho (upto_len (k + 1))); clear ho hg hst)
      go_roundw
      case rel => exact ⟨k + 1, B', d', by omega, by go_num, rfl, SE⟩
      case measure => simp [intOf]; omega
    · obtain rfl : k = n := by omega
      clear hlt hk
      go_wp2
      go_loopw [9] (fun t wz => ∃ (i : Int) (q : Nat) (l : List Int) (A' : Option Addr) (c' : Nat), -1 ≤ i ∧ i < 256 ∧ t = .int .i64 i ∧ Hid (RefS w N q bs k l A' c' B d wz) ∧ Hid (i < k ∨ i = -1) ∧ Hid (shuf bs q i.toNat l = orderOf bs p k ∧ min (q + 2 * i.toNat) N = min (p + 2 * (k - 1)) N)) (fun t _ => (intOf t).toNat)
      case atStart => exact ⟨(k : Int) - 1, p, upto k, X2, d2, by omega, by omega, rfl, S, Lib.hid (by omega), Lib.hid ⟨by rw [show ((k : Int) - 1).toNat = k - 1 by omega]; rfl, by rw [show ((k : Int) - 1).toNat = k - 1 by omega]⟩⟩
      case round =>
        clear S
        obtain ⟨i, q, l, A', c', hi0, hi1, rfl, S, HI, HF⟩ := hrel
        by_cases hlt : 0 < i
        · obtain ⟨m, rfl⟩ : ∃ m : Nat, i = (m : Int) + 1 := ⟨(i - 1).toNat, by omega⟩
          have hpl := place_lt bs q m
          have e2 : (m : Int) + 1 + 1 = (m : Int) + 2 := by omega
          obtain ⟨j, hj⟩ : ∃ j : Nat, drawAt bs q % ((m : Int) + 1 + 1) = (j : Int) := ⟨(drawAt bs q % ((m : Int) + 2)).toNat, by rw [e2]; omega⟩
          have hjm : (j : Int) ≤ (m : Int) + 1 := by rw [e2] at hj; omega
          have HE : Hid (shuf bs (min (q + 2) N) m (swap l (m + 1) j) = orderOf bs p k ∧ min (min (q + 2) N + 2 * m) N = min (p + 2 * (k - 1)) N) := by
            obtain ⟨f1, f2⟩ := HF.out
            rw [show ((m : Int) + 1).toNat = m + 1 by omega] at f1 f2
            rw [shuf, ← e2, hj] at f1
            refine Lib.hid ⟨?_, by omega⟩
            rw [HL.out] at f1
            simpa using f1
          have HJ := Lib.hid hj
          have hmk : (m : Int) + 1 < k := by have := HI.out; omega
          have hj0 : (0 : Int) ≤ (j : Int) := by omega
          have hjk : (j : Int) < (k : Int) := by omega
          clear hpl e2 hj HF HI
          obtain ⟨g, rfl, hgb, -, -, -⟩ := S.out.row.form (by rw [S.out.len]; omega)
          have a_z := S.out.box.c0
          have b_z := S.out.box.c1
          go_wp2_with fail
          refine (rbelow_as A' N c' q bs ((m : Int) + 1 + 1) j _ S.out.octs hN S.out.qN (by omega) (by omega) HJ.out).mono ?_
          rintro e w6 ⟨A2, c2, rfl, ho2, hb⟩
          clear a_z b_z
          have hal := (Below.refl w6.heap.size w6).alloc (Nat.le_refl _) (.cells #[.slice A2 N c2, .int .i64 (min (q + 2) N : Nat)] 24)
          have S6 := Lib.hid (S.out.step (hb.alloc hb.size (.cells #[.slice A2 N c2, .int .i64 (min (q + 2) N : Nat)] 24)))
          have O2 := Lib.hid ((ho2.base S.out.res.lt).below hal)
          have g2 : ¬ (g = w.heap.size) := by omega
          have g4 : ¬ (w.heap.size = g) := by omega
          have g3 : ¬ (w.heap.size = w6.heap.size) := by have := Nat.lt_of_lt_of_le S.out.box.lt hb.size; omega
          obtain ⟨c1, f1⟩ := S6.out.row.at_ (j := m + 1) (by rw [S6.out.len]; omega)
          obtain ⟨c2', f2⟩ := S6.out.row.at_ (j := j) (by rw [S6.out.len]; omega)
          have z0 := S6.out.box.c0
          have z1 := S6.out.box.c1
          have y0 := S6.out.box.frozen 0
          have y1 := S6.out.box.frozen 1
          have HT := Lib.hid (((S6.out.turn O2.out (q' := min (q + 2) N) (by omega)).set_ (m + 1) (S6.out.fit j)).set_ j (S6.out.fit (m + 1)))
          clear hb S ho2 hal O2 S6
          by_cases hne : j = m + 1
          · subst hne
            go_wp2
            clear c1 f1 c2' f2 z0 z1 y0 y1 g2 g3 g4
            go_roundw
            case rel => exact ⟨(m : Int), min (q + 2) N, swap l (m + 1) (m + 1), A2, c2, by omega, by omega, by go_num, HT, Lib.hid (by omega), HE⟩
            case measure => simp [intOf] <;> omega
          · go_wp2
            clear c1 f1 c2' f2 z0 z1 y0 y1 g2 g3 g4
            go_roundw
            case rel => exact ⟨(m : Int), min (q + 2) N, swap l (m + 1) j, A2, c2, by omega, by omega, by go_num, HT, Lib.hid (by omega), HE⟩
            case measure => simp [intOf] <;> omega
        · clear hi1
          have hF := HF.out
          have he : i.toNat = 0 := by omega
          rw [he] at hF
          have hl : l = orderOf bs p k := hF.1
          have hq : q = min (p + 2 * (k - 1)) N := by have := hF.2; have := S.out.qN; omega
          clear hF he HF
          subst hl hq
          have z0 := S.out.box.c0
          have z1 := S.out.box.c1
          have r0 := S.out.res.c0
          have r1 := S.out.res.c1
          have f0 := S.out.res.frozen 0
          have f1 := S.out.res.frozen 1
          have HB := Lib.hid ((S.out.below.setCell (p := ⟨w.heap.size + 1, 0, none⟩) (by simp) (.slice A' N c')).setCell (p := ⟨w.heap.size + 1, 1, none⟩) (by simp) (.int .i64 (min (p + 2 * (k - 1)) N : Nat))).drew
          have HN := Lib.hid (((S.out.own.far (p := ⟨w.heap.size + 1, 0, none⟩) (by simp) (.slice A' N c')).far (p := ⟨w.heap.size + 1, 1, none⟩) (by simp) (.int .i64 (min (p + 2 * (k - 1)) N : Nat))).base (base' := w.heap.size) (by omega)).drew
          have HW : Hid (OwnI 3 ((wr.setCell ⟨w.heap.size + 1, 0, none⟩ (.slice A' N c')).setCell ⟨w.heap.size + 1, 1, none⟩ (.int .i64 (min (p + 2 * (k - 1)) N : Nat))).drew w.heap.size B d (orderOf bs p k)) := Lib.hid (((S.out.row.far (p := ⟨w.heap.size + 1, 0, none⟩) (by simp) (.slice A' N c')).far (p := ⟨w.heap.size + 1, 1, none⟩) (by simp) (.int .i64 (min (p + 2 * (k - 1)) N : Nat))).base (base' := w.heap.size) (by omega))
          clear S
          go_wp2_with fail
          go_region
          go_wp2
          exact bodyPost_ret (v := .tuple #[.slice B k d, .agg #[.slice A' N c', .int .i64 (min (p + 2 * (k - 1)) N : Nat)], .int .i64 0]) (by simp [results, Try.results25, go_sem, *]) rfl ⟨A', c', B, d, by rw [order_len, HL.out], HW.out, HN.out, HB.out⟩

end Go.Proofs.Ytljfinfjchkphaa

/-
  Layer 11, the program: whether some way goes round: comesBack, and round.
-/
import Derived.Test.YtkffmohgnbnhkaaJg
namespace Go.Proofs.Ytkffmohgnbnhkaa
open Go.RowKit Go.Maps Go.Shelf
attribute [local go_sem] Oper.semAt_some wide_depth

theorem gb_below {w W Y : World} {row : Option Nat} (h : w.grownBy W row) (hb : Below W.heap.size W Y) : w.grownBy Y row :=
  ⟨hb.os.trans h.os, hb.tape.trans h.tape, hb.output.trans h.output, Nat.le_trans h.size hb.size, fun k hk hne => (hb.block k (Nat.lt_of_lt_of_le hk h.size)).trans (h.block k hk hne)⟩
theorem gb_turn {B : Nat} {w W Y : World} {row : Option Nat} (h : w.grownBy W row) (ht : Turn B W Y) (hB : w.heap.size ≤ B) : w.grownBy Y row :=
  ⟨ht.os.trans h.os, ht.tape.trans h.tape, ht.output.trans h.output, Nat.le_trans h.size ht.size, fun k hk hne => by
    have hlt : k < W.heap.size := Nat.lt_of_lt_of_le hk h.size
    have e : W.heap[k]? = some W.heap[k] := Array.getElem?_eq_getElem hlt
    rw [ht.same k _ e (.inr (by omega)), ← e]
    exact h.block k hk hne⟩
theorem gb_set {w W : World} {row : Option Nat} {p : Addr} (h : w.grownBy W row) (hp : w.heap.size ≤ p.block) (v : Value) : w.grownBy (W.setCell p v) row :=
  ⟨h.os, h.tape, h.output, by simpa [World.setCell] using h.size, fun k hk hne => (Below.heap_setCell W p v k (by omega)).trans (h.block k hk hne)⟩
theorem ZMap.turn {B : Nat} {w w' : World} {b n : Nat} {f : Int → Int} (h : ZMap w b n f) (ht : Turn B w w') (hB : b < B) : ZMap w' b n f := by
  obtain ⟨es, ck, e⟩ := h.map_
  exact h.block_ ((ht.same b _ e (.inr hB)).trans e.symm)

/-- What comesBack reads of the call that has made it: the map in its box, and what is passed, in its own. -/
structure RdS (C g1 g2 b n bp : Nat) (w : World) (l : List Tm) : Prop where
  lowb : b < C
  hg1 : C ≤ g1
  hg2 : C ≤ g2
  hbp : C ≤ bp
  map : ZMap w b n (onL l)
  box : Bk w g1 46 #[.map (some b)]
  pas : Bk w g2 45 #[.map (some bp)]
theorem RdS.grown {C g1 g2 b n bp : Nat} {w w' : World} {l : List Tm} (h : RdS C g1 g2 b n bp w l) (hg : w.grownBy w' (some bp)) (hz : ∃ m p, ZMap w bp m p) : RdS C g1 g2 b n bp w' l := by
  obtain ⟨m, p, hz⟩ := hz
  exact ⟨h.lowb, h.hg1, h.hg2, h.hbp, h.map.grown hg (by have := h.lowb; have := h.hbp; intro e; injection e with e; omega), h.box.grown hg (by intro e; injection e with e; exact hz.nebk h.box e), h.pas.grown hg (by intro e; injection e with e; exact hz.nebk h.pas e)⟩

/-- Between two rounds of comesBack. -/
def CbI (w : World) (l : List Tm) (p : Int → Int) (x : Int) (bp N k : Nat) (y : Int) (W : World) : Prop :=
  ∃ z q m, Wlk l p q x z ∧ onL l z = y ∧ k = freshN l q ∧ ZMap W bp m q ∧ m + freshN l q ≤ N ∧ Bk W w.heap.size 2 #[.int .i64 x] ∧ Bk W (w.heap.size + 1) 4 #[.bool false] ∧ w.grownBy W (some bp)
/-- What comesBack has told: some way goes round; or that of x ends, and those of all who are passed. -/
def CbA (w : World) (l : List Tm) (p : Int → Int) (x : Int) (bp N : Nat) (r : Bool) (W : World) : Prop :=
  w.grownBy W (some bp) ∧ ∃ m q, ZMap W bp m q ∧ m + freshN l q ≤ N ∧ ((r = true ∧ ∃ y, ¬ Ends l y) ∨ (r = false ∧ Ends l x ∧ ∀ y, 0 ≤ q y → Ends l y ∧ (q y = x ∨ q y = p y)))
def CbZ (w : World) (l : List Tm) (p : Int → Int) (x : Int) (bp N : Nat) (c : Code) (W : World) : Prop :=
  c = .ret ∧ ∃ r, Bk W (w.heap.size + 1) 4 #[.bool r] ∧ CbA w l p x bp N r W
theorem CbA.turn {B : Nat} {w X Y : World} {l : List Tm} {p : Int → Int} {x : Int} {bp N : Nat} {r : Bool} (h : CbA w l p x bp N r X) (ht : Turn B X Y) (hB : w.heap.size ≤ B) (hb : bp < B) : CbA w l p x bp N r Y := by
  obtain ⟨h1, m, q, h2, h3⟩ := h
  exact ⟨gb_turn h1 ht hB, m, q, h2.turn ht hb, h3⟩

set_option maxRecDepth 100000 in
set_option maxHeartbeats 8000000 in
theorem comes_any (C g1 g2 b n bp N m0 : Nat) (l : List Tm) (p : Int → Int) (x : Int) (w : World) (hr : RdS C g1 g2 b n bp w l) (hC : C ≤ w.heap.size) (hz : ZMap w bp m0 p) (hN : m0 + freshN l p ≤ N) (hN2 : N ≤ 900) (hx : Fit x) (hx0 : 0 ≤ x) (hb : Bef l p x) :
    Calls Try.prog 39 #[.int .i64 x, .pointer (some ⟨g1, 0, none⟩), .pointer (some ⟨g2, 0, none⟩)] w (fun e w' => ∃ r, e = .returned (.bool r) ∧ CbA w l p x bp N r w') := by
  have HRD := Lib.hid hr
  have HXF := Lib.hid hx
  have HX0 := Lib.hid hx0
  have HNE := Lib.hid hz.lt
  have HZ0 : Hid (∃ m p, ZMap w bp m p) := Lib.hid ⟨m0, p, hz⟩
  have HN2 := Lib.hid hN2
  have HLW := Lib.hid hr.hbp
  have hlb := hr.lowb
  have hg1l := hr.box.lt
  have hg2l := hr.pas.lt
  have hbpl := hz.lt
  have hb2 := ((Below.refl w.heap.size w).alloc (Nat.le_refl _) (.cells #[.int .i64 x] 2)).alloc (by simp) (.cells #[.bool false] 4)
  have K1 := (Bk.new w 2 #[.int .i64 x]).alloc (.cells #[.bool false] 4)
  have K2 := Bk.new (w.alloc (.cells #[.int .i64 x] 2)) 4 #[.bool false]
  rw [size_alloc] at K2
  have hs2 : ((w.alloc (.cells #[.int .i64 x] 2)).alloc (.cells #[.bool false] 4)).heap.size = w.heap.size + 2 := by simp
  have G1 := hr.box.below hb2 hr.box.lt
  have Z2 := hr.map.below hb2
  have ZP := hz.below hb2
  have q1 := G1.one
  have q2 := K1.one
  have hway := way_any b x ((w.alloc (.cells #[.int .i64 x] 2)).alloc (.cells #[.bool false] 4))
  have hL := lie_new (C := C) Z2 hr.lowb x
  have hb4 := ((Below.refl ((w.alloc (.cells #[.int .i64 x] 2)).alloc (.cells #[.bool false] 4)).heap.size _).alloc (Nat.le_refl _) (.cells #[.map (some b)] 46)).alloc (by simp) (.cells #[.int .i64 x] 2)
  have K1' := K1.below hb4 K1.lt
  have K2' := K2.below hb4 K2.lt
  have ZP' := ZP.below hb4
  have hb6 := below3 hb2 hb4
  have hs6 : ((((w.alloc (.cells #[.int .i64 x] 2)).alloc (.cells #[.bool false] 4)).alloc (.cells #[.map (some b)] 46)).alloc (.cells #[.int .i64 x] 2)).heap.size = w.heap.size + 4 := by simp
  rw [hs2] at hL hway
  have HB := Lib.hid (Wlk.start hb hx0)
  have HNN := Lib.hid hN
  clear hr hx hx0 hz hb2 hb4 K1 K2 Z2 ZP hb hN hN2 G1
  refine (callsIn_wide (n := 5)).1 ?_
  refine callsIn_of_wp_marks Try.func39 rfl trivial ?_
  simp only [Try.ntmps39, List.size_toArray, List.length_cons, List.length_nil, Nat.reduceAdd, Nat.reduceSub, Array.replicate_succ, Array.replicate_zero, List.push_toArray, List.append_toArray, List.nil_append, List.cons_append]
  gi_wp2_with (refine ⟨trivial, ?_⟩; gi_at_call 31; refine (callsIn_wide.2 hway).mono ?_; rintro e w6 ⟨rfl, rfl⟩)
  clear hway q1 q2
  generalize (((w.alloc (.cells #[.int .i64 x] 2)).alloc (.cells #[.bool false] 4)).alloc (.cells #[.map (some b)] 46)).alloc (.cells #[.int .i64 x] 2) = w6 at hL K1' K2' ZP' hb6 hs6 ⊢
  have hww : w.heap.size ≤ w6.heap.size := by omega
  have hg6 : w.grownBy w6 (some bp) := ⟨hb6.os, hb6.tape, hb6.output, hb6.size, fun k hk _ => hb6.block k hk⟩
  refine range_way (gf := 38) (lb := #[.pointer (some ⟨w.heap.size + 2, 0, none⟩), .pointer (some ⟨w.heap.size + 2 + 1, 0, none⟩)]) rfl eg_way
    (way1_seq 4 C (w.heap.size + 2) b n (onL l) x w6 HXF.out (by omega) hL) rfl
    (CbI w l p x bp N) (CbZ w l p x bp N)
    (fun y a' _ => a' = { tmps := #[.int .i64 x, .pointer (some ⟨g1, 0, none⟩), .pointer (some ⟨g2, 0, none⟩), .pointer (some ⟨w.heap.size, 0, none⟩), .pointer (some ⟨w.heap.size + 1, 0, none⟩), .int .i64 y, undef, undef, .map (some b), .int .i64 x, .func (.func 38) #[] #[.pointer (some ⟨w.heap.size + 2, 0, none⟩), .pointer (some ⟨w.heap.size + 2 + 1, 0, none⟩)], .int .i64 y, undef, undef, undef, undef, undef, undef, undef, undef, undef, undef, undef, undef, undef], defers := [] })
    (fun k y X Y h ht => by obtain ⟨z, q, m, h1, h2, h3, h4, h5, h6, h7, h8⟩ := h; exact ⟨z, q, m, h1, h2, h3, h4.turn ht (by omega), h5, h6.turn ht, h7.turn ht, gb_turn h8 ht hww⟩)
    (fun q X Y h ht => by obtain ⟨e, r, h1, h2⟩ := h; exact ⟨e, r, h1.turn ht, h2.turn ht hww (by omega)⟩) (fun y a' X Y h _ => h)
    (fun X Y hs ht => KpN.of_turn ht (by omega) (by omega)) (fun h k => h.trans k) (freshN l p) ⟨x, p, m0, HB.out, rfl, rfl, ZP', HNN.out, K1', K2', hg6⟩ ?hround ?hbody ?hdone ?hstop
  case hround =>
    intro l' k y W hj hx0
    gi_wp2
    exact ⟨KeepsFrom.refl _ _, KpN.refl _ _ _, hj, trivial⟩
  case hbody =>
    rintro l' kk y a' W ⟨z, q, m, h1, h2, rfl, h4, h5, h6, h7, h8⟩ hx0 rfl
    have H1 := Lib.hid h1
    have H2 := Lib.hid h2
    have H5 := Lib.hid h5
    have H6 := Lib.hid h6
    have H7 := Lib.hid h7
    have H8 := Lib.hid h8
    have H4 := Lib.hid h4
    have c6 := h6.one
    have c7 := h7.one
    have f7 := h7.frozen 0
    have cp := (HRD.out.grown h8 HZ0.out).pas.one
    have fy : Fit y := by rw [← h2]; exact hL.map.fit z
    obtain ⟨v, hget, hv⟩ := h4.get (t := 45) Try.underlying45 fy
    have HV := Lib.hid hv
    have HY0 := Lib.hid hx0
    obtain ⟨w3, hput, hz3, hg3⟩ := h4.put (t := 45) Try.underlying45 fy HXF.out HX0.out (by have := HN2.out; omega)
    have HZ3 := Lib.hid hz3
    have HG3 := Lib.hid hg3
    clear h1 h2 h4 h5 h6 h7 h8 K1' K2' ZP' hL hx0 hv hz3 hg3 fy hg6 hb6 HNN HB
    by_cases hp : 0 ≤ q y
    · rw [decide_eq_true hp] at hget
      have hvq := HV.out hp
      obtain ⟨r, hr⟩ : ∃ r : Bool, (v == x) = r := ⟨_, rfl⟩
      have HZ : Hid (CbZ w l p x bp N .ret (W.setCell ⟨w.heap.size + 1, 0, none⟩ (.bool r))) := Lib.hid ⟨rfl, r, H7.out.set_ 0 _, gb_set H8.out (p := ⟨w.heap.size + 1, 0, none⟩) (by simp only []; omega) _, m, q, H4.out.block_ (Below.heap_setCell W _ _ bp (by simp only []; omega)), H5.out, by
        by_cases e : v = x
        · left
          refine ⟨by rw [← hr]; simpa using e, y, ?_⟩
          have := H1.out.met (by rw [H2.out]; exact HY0.out) (by rw [H2.out, ← hvq]; exact e)
          rw [H2.out] at this
          exact this
        · right
          have he : Ends l z := Ends.back (by rw [H2.out]; exact HY0.out) (by rw [H2.out]; exact H1.out.old y hp (by rw [← hvq]; exact e))
          obtain ⟨a1, a2⟩ := H1.out.all he
          exact ⟨by rw [← hr]; simpa using e, a1, fun y hy => ⟨a2 y hy, H1.out.val y hy⟩⟩⟩
      clear hp hput hvq HV
      gi_wp2
      exact ⟨(KeepsOthers.setCell _ _ _).from _, HZ.out⟩
    · rw [decide_eq_false hp] at hget
      have hfr : freshN l (updZ q y x) < freshN l q := by
        have := freshN_upd (l := l) (p := q) (x := z) (who := x) (by rw [H2.out]; exact HY0.out) (by rw [H2.out]; omega) HX0.out
        rw [H2.out] at this
        exact this
      have HF : Hid (∃ k', k' < freshN l q ∧ CbI w l p x bp N k' (onL l y) w3) := Lib.hid ⟨_, hfr, y, updZ q y x, m + 1, by
          have := H1.out.step (by rw [H2.out]; exact HY0.out)
          rw [H2.out] at this
          exact this, rfl, rfl, HZ3.out, by have := H5.out; omega, H6.out.grown HG3.out (by intro e; injection e with e; omega), H7.out.grown HG3.out (by intro e; injection e with e; omega), H8.out.trans HG3.out⟩
      have HKN : Hid (KpN C (w.heap.size + 2) W w3) := Lib.hid (KpN.of_grown HG3.out (fun k hk => by injection hk with hk; have := HLW.out; omega))
      have HKF : Hid (KeepsFrom w6.heap.size W w3) := Lib.hid (KeepsFrom.of_grownBy HG3.out (fun j hj => by injection hj with hj; omega))
      clear hp hfr HV
      gi_wp2
      exact ⟨HKF.out, HKN.out, HF.out⟩
  case hdone =>
    rintro D' kk y W hD hx ⟨z, q, m, h1, h2, hk, h4, h5, h6, h7, h8⟩ hd
    have he : Ends l z := ⟨[], .stop (by rw [h2]; exact hx)⟩
    obtain ⟨a1, a2⟩ := h1.all he
    have c7 := h7.one
    have f7 := h7.frozen 0
    have l7 := h7.lt
    have hd2 : (W.setCell ⟨w.heap.size + 1, 0, none⟩ (.bool false)).heap[D']? = some (.deferred (some [])) := (Below.heap_setCell W _ _ D' (by simp only []; omega)).trans hd
    have ht := Turn.put (B := w6.heap.size) (.deferred none) hd2 hD rfl
    have K7 := Lib.hid ((h7.set_ 0 (.bool false)).turn ht)
    have HCA : Hid (CbA w l p x bp N false ((W.setCell ⟨w.heap.size + 1, 0, none⟩ (.bool false)).putObj D' (.deferred none))) := Lib.hid (CbA.turn (B := w6.heap.size) ⟨gb_set h8 (p := ⟨w.heap.size + 1, 0, none⟩) (by simp only []; omega) _, m, q, h4.block_ (Below.heap_setCell W _ _ bp (by simp only []; omega)), h5, .inr ⟨rfl, a1, fun y hy => ⟨a2 y hy, h1.val y hy⟩⟩⟩ ht hww (by omega))
    clear h1 h2 hk h4 h5 h6 h7 h8 K1' K2' ZP' hL ht he a1 a2 hx
    gi_wp2
    refine ⟨by simp, .inl ⟨_, _, rfl, run_takeDeferred hd2, ?_⟩⟩
    have q7 := K7.out.one
    refine ⟨.bool false, ?_, false, rfl, HCA.out⟩
    simp [results, Try.results39, go_sem, *]
  case hstop =>
    rintro D' q W hD ⟨rfl, r, h7, h8⟩ hd
    have ht := Turn.put (B := w6.heap.size) (.deferred none) hd hD rfl
    have K7 := Lib.hid (h7.turn ht)
    have HCA := Lib.hid (h8.turn ht hww (by omega))
    clear h7 h8 K1' K2' ZP' hL ht
    gi_wp2
    refine ⟨by simp, .inl ⟨_, _, rfl, run_takeDeferred hd, ?_⟩⟩
    have q7 := K7.out.one
    refine ⟨.bool r, ?_, r, rfl, HCA.out⟩
    simp [results, Try.results39, go_sem, *]

end Go.Proofs.Ytkffmohgnbnhkaa

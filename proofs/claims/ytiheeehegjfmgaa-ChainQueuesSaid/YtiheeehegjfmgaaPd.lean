/-
  The program's link; the node ahead of one; the nodes of a list, gathered.
-/
import Derived.Test.YtiheeehegjfmgaaPc
namespace Go.Proofs.Ytiheeehegjfmgaa
open Go.RowKit Go.Shelf
attribute [local go_sem] Oper.semAt_some wide_depth

theorem link_head (A B D : Option Addr) (n a m b k d g i : Nat) (x : Int) (w : World) (v : Value) (hB : B = some ⟨g, 0, none⟩) (hi : i < m) (hg : g < w.heap.size) (hc : w.cell? ⟨g, i, none⟩ = some v) (hf : w.frozen? ⟨g, i, none⟩ = false) :
    Calls Try.prog 33 #[.agg #[.slice A n a, .slice B m b, .slice D k d], .int .i64 i, .int .i64 (-1), .int .i64 x] w fun e w' => e = .returned (.tuple #[]) ∧ w' = (w.setCell ⟨g, i, none⟩ (.int .i64 x)).alloc (.cells #[.slice A n a, .slice B m b, .slice D k d] 24) := by
  subst hB
  have hb := (Below.refl w.heap.size w).alloc (Nat.le_refl _) (.cells #[.slice A n a, .slice (some ⟨g, 0, none⟩) m b, .slice D k d] 24)
  have c1 := (hb.cell (p := ⟨g, i, none⟩) hg).trans hc
  have f1 := (hb.frozen (p := ⟨g, i, none⟩) hg).trans hf
  go_enter Try.func33, Try.ntmps33
  go_wp2
  go_end0
  exact ⟨rfl, rfl⟩
theorem link_next (A B D : Option Addr) (n a m b k d g p : Nat) (i x : Int) (w : World) (v : Value) (hA : A = some ⟨g, 0, none⟩) (hp : p < n) (hg : g < w.heap.size) (hc : w.cell? ⟨g, p, none⟩ = some v) (hf : w.frozen? ⟨g, p, none⟩ = false) :
    Calls Try.prog 33 #[.agg #[.slice A n a, .slice B m b, .slice D k d], .int .i64 i, .int .i64 p, .int .i64 x] w fun e w' => e = .returned (.tuple #[]) ∧ w' = (w.setCell ⟨g, p, none⟩ (.int .i64 x)).alloc (.cells #[.slice A n a, .slice B m b, .slice D k d] 24) := by
  subst hA
  have hb := (Below.refl w.heap.size w).alloc (Nat.le_refl _) (.cells #[.slice (some ⟨g, 0, none⟩) n a, .slice B m b, .slice D k d] 24)
  have c1 := (hb.cell (p := ⟨g, p, none⟩) hg).trans hc
  have f1 := (hb.frozen (p := ⟨g, p, none⟩) hg).trans hf
  have hne : ((p : Int) == -1) = false := by rw [beq_eq_false_iff_ne]; omega
  go_enter Try.func33, Try.ntmps33
  go_wp2
  go_end0
  exact ⟨rfl, rfl⟩

/-- The node ahead of place p. -/
def aheadO (l : List Int) (p : Nat) : Int := if p = 0 then -1 else nth l (p - 1)
/-- Between two rounds of before. -/
def BeJ (w : World) (l : List Int) (node : Int) (p k : Nat) (x : Int) (W : World) : Prop :=
  ∃ q, q ≤ p ∧ k = p - q ∧ x = nth l q ∧ Bk W (w.heap.size + 1) 3 #[.int .i64 node] ∧ Bk W (w.heap.size + 1 + 1) 3 #[.int .i64 (aheadO l q)] ∧ Below w.heap.size w W
def BeZ (w : World) (l : List Int) (p : Nat) (q : Code) (W : World) : Prop :=
  q = .exit 0 ∧ Bk W (w.heap.size + 1 + 1) 3 #[.int .i64 (aheadO l p)] ∧ Below w.heap.size w W

set_option maxRecDepth 100000 in
set_option maxHeartbeats 4000000 in
theorem before_any (A B D : Option Addr) (n a m b k d : Nat) (next head tail : List Int) (qs : List (List Int)) (i p : Nat) (w : World) (hp0 : Chn w A n B m D k next head tail) (r : Rep next head tail qs) (hi : i < qs.length) (hp : p < (qth qs i).length) :
    Calls Try.prog 46 #[.agg #[.slice A n a, .slice B m b, .slice D k d], .int .i64 i, .int .i64 (nth (qth qs i) p)] w (RetB (.int .i64 (aheadO (qth qs i) p)) w) := by
  have HA := Lib.hid hp0.x
  have HB := Lib.hid hp0.h
  have LA := Lib.hid hp0.x.1
  have him : i < m := by have := hp0.h.1; have := r.lh; omega
  have HHD : Hid (nth head i = nth (qth qs i) 0) := Lib.hid (by rw [r.hd i hi]; exact if_neg (by omega))
  obtain ⟨x0, hx0⟩ : ∃ x, nth (qth qs i) p = x := ⟨_, rfl⟩
  have HX0 := Lib.hid hx0
  have HR := Lib.hid r
  rw [hx0]
  have hb2 := ((Below.refl w.heap.size w).alloc (Nat.le_refl _) (.cells #[.slice A n a, .slice B m b, .slice D k d] 24)).alloc (by simp) (.cells #[.int .i64 x0] 3)
  have hb3 := hb2.alloc (by simp; omega) (.cells #[.int .i64 (-1)] 3)
  have K1 := ((Bk.new w 24 #[.slice A n a, .slice B m b, .slice D k d]).alloc (.cells #[.int .i64 x0] 3)).alloc (.cells #[.int .i64 (-1)] 3)
  have K2 := (Bk.new (w.alloc (.cells #[.slice A n a, .slice B m b, .slice D k d] 24)) 3 #[.int .i64 x0]).alloc (.cells #[.int .i64 (-1)] 3)
  have K3 := Bk.new ((w.alloc (.cells #[.slice A n a, .slice B m b, .slice D k d] 24)).alloc (.cells #[.int .i64 x0] 3)) 3 #[.int .i64 (-1)]
  rw [size_alloc] at K2
  rw [size_alloc, size_alloc] at K3
  have hs3 : (((w.alloc (.cells #[.slice A n a, .slice B m b, .slice D k d] 24)).alloc (.cells #[.int .i64 x0] 3)).alloc (.cells #[.int .i64 (-1)] 3)).heap.size = w.heap.size + 3 := by simp
  have x0' := K1.e0
  have x1' := K1.e1
  have x2' := K1.e2
  have hnod := nodes_any (.agg #[.slice A n a, .slice B m b, .slice D k d]) _ rfl ⟨_, _, _, rfl⟩ i (((w.alloc (.cells #[.slice A n a, .slice B m b, .slice D k d] 24)).alloc (.cells #[.int .i64 x0] 3)).alloc (.cells #[.int .i64 (-1)] 3))
  clear hp0 r hx0
  refine (callsIn_wide (n := 5)).1 ?_
  refine callsIn_of_wp_marks Try.func46 rfl trivial ?_
  simp only [Try.ntmps46, List.size_toArray, List.length_cons, List.length_nil, Nat.reduceAdd, Nat.reduceSub, Array.replicate_succ, Array.replicate_zero, List.push_toArray, List.append_toArray, List.nil_append, List.cons_append]
  gi_wp2_with (refine ⟨trivial, ?_⟩; gi_at_call 42; refine (callsIn_wide.2 hnod).mono ?_; rintro e w6 ⟨rfl, rfl⟩)
  have hbx := ((Below.refl _ (((w.alloc (.cells #[.slice A n a, .slice B m b, .slice D k d] 24)).alloc (.cells #[.int .i64 x0] 3)).alloc (.cells #[.int .i64 (-1)] 3))).alloc (Nat.le_refl _) (.cells #[.slice A n a, .slice B m b, .slice D k d] 24)).alloc (by simp) (.cells #[.int .i64 i] 3)
  have L6 := lie_new (w0 := w) (fun k hk => hb3.block k hk) hb3.size #[.slice A n a, .slice B m b, .slice D k d] i
  rw [hs3] at L6
  have L6' : LieN w.heap.size (w.heap.size + 1 + 1 + 1) w _ _ i := L6
  replace K2 := K2.below hbx K2.lt
  replace K3 := K3.below hbx K3.lt
  have hb6 := below3 hb3 hbx
  have hs6 : ((((w.alloc (.cells #[.slice A n a, .slice B m b, .slice D k d] 24)).alloc (.cells #[.int .i64 x0] 3)).alloc (.cells #[.int .i64 (-1)] 3)).alloc (.cells #[.slice A n a, .slice B m b, .slice D k d] 24)).alloc (.cells #[.int .i64 i] 3) |>.heap.size |> (· = w.heap.size + 5) := by simp
  clear hbx x0' x1' x2' hnod L6 K1 hs3 hb3 hb2
  generalize ((((w.alloc (.cells #[.slice A n a, .slice B m b, .slice D k d] 24)).alloc (.cells #[.int .i64 x0] 3)).alloc (.cells #[.int .i64 (-1)] 3)).alloc (.cells #[.slice A n a, .slice B m b, .slice D k d] 24)).alloc (.cells #[.int .i64 i] 3) = w6 at L6' K2 K3 hb6 hs6 ⊢
  replace hs6 : w6.heap.size = w.heap.size + 5 := hs6
  have hww : w.heap.size ≤ w6.heap.size := by omega
  refine range_nodes (gf := 49) (lb := #[.pointer (some ⟨w.heap.size + 1 + 1 + 1, 0, none⟩), .pointer (some ⟨w.heap.size + 1 + 1 + 1 + 1, 0, none⟩)]) rfl (enters_of Try.func49 (by kernel_rfl) rfl)
    (nodes1_seq 4 w.heap.size (w.heap.size + 1 + 1 + 1) A B D n a m b k d next head i w w6 HA.out HB.out rfl hww him L6') rfl
    (BeJ w (qth qs i) x0 p) (BeZ w (qth qs i) p)
    (fun x a' _ => a' = { tmps := #[.agg #[.slice A n a, .slice B m b, .slice D k d], .int .i64 i, .int .i64 x0, .pointer (some ⟨w.heap.size, 0, none⟩), undef, .pointer (some ⟨w.heap.size + 1, 0, none⟩), .int .i64 0, .pointer (some ⟨w.heap.size + 1 + 1, 0, none⟩), .int .i64 x, .agg #[.slice A n a, .slice B m b, .slice D k d], .int .i64 i, .func (.func 49) #[] #[.pointer (some ⟨w.heap.size + 1 + 1 + 1, 0, none⟩), .pointer (some ⟨w.heap.size + 1 + 1 + 1 + 1, 0, none⟩)], .int .i64 x, undef, undef, undef, undef, undef], defers := [] })
    (fun k x X Y h ht => by obtain ⟨q, h1, h2, h3, h4, h5, h6⟩ := h; exact ⟨q, h1, h2, h3, h4.turn ht, h5.turn ht, ht.below h6 hww (Nat.le_refl _)⟩) (fun q X Y h ht => by obtain ⟨e, h1, h2⟩ := h; exact ⟨e, h1.turn ht, ht.below h2 hww (Nat.le_refl _)⟩) (fun x a' X Y h _ => h)
    (fun X Y hs ht => KpN.of_turn ht hww (by omega)) (fun h k => h.trans k) p ⟨0, Nat.zero_le _, by omega, HHD.out, K2, K3, hb6⟩ ?hround ?hbody ?hdone ?hstop
  case hround =>
    intro l k x W hj hx0 hx1
    gi_wp2
    exact ⟨KeepsFrom.refl _ _, ⟨Nat.le_refl _, fun _ _ _ => rfl⟩, hj, trivial⟩
  case hbody =>
    rintro l kk x a' W ⟨q, hq, rfl, hxq, h4, h5, h6⟩ hx0 hx1 rfl
    have H4 := Lib.hid h4
    have H5 := Lib.hid h5
    have H6 := Lib.hid h6
    have c4 := h4.one
    have c5 := h5.one
    have f5 := h5.frozen 0
    have HXQ := Lib.hid hxq
    clear h4 h5 h6 K2 K3 L6' hxq
    by_cases e : x = x0
    · have heb : (x == x0) = true := by simpa using e
      have hqp : q = p := (HR.out.one i i q p hi hi (by omega) hp (by rw [← HXQ.out, e, HX0.out])).2
      have HZ : Hid (BeZ w (qth qs i) p (.exit 0) W) := Lib.hid ⟨rfl, hqp ▸ H5.out, H6.out⟩
      clear e hqp
      gi_wp2
      exact ⟨KeepsFrom.refl _ _, HZ.out⟩
    · have heb : (x == x0) = false := by simpa using e
      have hqp : q < p := by
        rcases Nat.lt_or_ge q p with h | h
        · exact h
        · obtain rfl : q = p := by omega
          exact absurd (by rw [HXQ.out, HX0.out]) e
      have HNX : Hid (nth next x.toNat = nth (qth qs i) (q + 1)) := Lib.hid (by
        rw [HXQ.out, HR.out.nx i q hi (by omega)]
        exact if_pos (by omega))
      have HF : Hid (BeJ w (qth qs i) x0 p (p - (q + 1)) (nth next x.toNat) (W.setCell ⟨w.heap.size + 1 + 1, 0, none⟩ (.int .i64 x))) :=
        Lib.hid ⟨q + 1, by omega, rfl, HNX.out, H4.out.far (p := ⟨w.heap.size + 1 + 1, 0, none⟩) (by simp only []; omega) _, by
          have := H5.out.set_ 0 (.int .i64 x)
          have e2 : aheadO (qth qs i) (q + 1) = x := by rw [HXQ.out]; exact if_neg (by omega)
          rw [e2]; exact this, H6.out.setCell (p := ⟨w.heap.size + 1 + 1, 0, none⟩) (by simp only []; omega) _⟩
      have HKN : Hid (KpN w.heap.size (w.heap.size + 1 + 1 + 1) W (W.setCell ⟨w.heap.size + 1 + 1, 0, none⟩ (.int .i64 x))) := Lib.hid (KpN.set_ (p := ⟨w.heap.size + 1 + 1, 0, none⟩) (by simp only []; omega) (by simp only []; omega) (by simp only []; omega) _)
      clear e
      gi_wp2
      exact ⟨(KeepsOthers.setCell _ _ _).from _, HKN.out, p - (q + 1), by omega, HF.out⟩
  case hdone =>
    rintro D' kk x W hD hx ⟨q, hq, hk, hxq, h4, h5, h6⟩ hd
    exfalso
    have := HR.out.rng i q hi (by omega)
    omega
  case hstop =>
    rintro D' q W hD ⟨rfl, h5, h6⟩ hd
    have c5 := h5.one
    have HB6 := Lib.hid ((Turn.put (B := w6.heap.size) (.deferred none) hd hD rfl).below h6 hww (Nat.le_refl _))
    clear h5 h6 K2 K3 L6'
    gi_wp2
    refine ⟨by simp, .inl ⟨_, _, rfl, run_takeDeferred hd, ?_⟩⟩
    exact ⟨_, results_tmp rfl _ _ _, rfl, HB6.out⟩

end Go.Proofs.Ytiheeehegjfmgaa

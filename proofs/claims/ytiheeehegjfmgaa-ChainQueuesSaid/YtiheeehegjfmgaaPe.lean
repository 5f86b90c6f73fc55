/-
  slices.AppendSeq and slices.Collect at a list's nodes.
-/
import Derived.Test.YtiheeehegjfmgaaPd
import Derived.Maps.AppendAt
import Derived.RangeFuncBox
namespace Go.Proofs.Ytiheeehegjfmgaa
open Go.RowKit Go.Shelf
attribute [local go_sem] Oper.semAt_some wide_depth

/-- Between two rounds: what came so far is gathered. -/
def CoJ (w : World) (l : List Int) (k : Nat) (x : Int) (W : World) : Prop :=
  ∃ q A c, q ≤ l.length ∧ k = l.length - q ∧ x = hdK l q ∧ Bk W w.heap.size 22 #[.slice A q c] ∧ OwnQ 3 W w.heap.size A c (l.take q) ∧ Below w.heap.size w W
theorem OwnQ.turn {E : TypeId} {B : Nat} {w w' : World} {base : Nat} {A : Option Addr} {c : Nat} {zs : List Int} (h : OwnQ E w base A c zs) (ht : Turn B w w') : OwnQ E w' base A c zs := by
  refine ⟨h.1, h.2.1, ?_⟩
  rcases h.2.2 with h0 | ⟨g, o, cs, e, hb, hbk, h1, h2, h3, h4⟩
  · exact .inl h0
  · have hk := hbk.turn ht
    exact .inr ⟨g, o, cs, e, hb, hk, h1, h2, h3, fun j hj => by rw [hk.cell, ← hbk.cell]; exact h4 j hj⟩
theorem CoJ.turn {w X Y : World} {l : List Int} {k : Nat} {x : Int} {C : Nat} (h : CoJ w l k x X) (ht : Turn C X Y) (hC : w.heap.size ≤ C) : CoJ w l k x Y := by
  obtain ⟨q, A, c, h1, h2, h3, h4, h5, h6⟩ := h
  exact ⟨q, A, c, h1, h2, h3, h4.turn ht, h5.turn ht, ht.below h6 hC (Nat.le_refl _)⟩
/-- Numbers are handed back. -/
def RetI (zs : List Int) (w : World) (e : Ending) (w' : World) : Prop :=
  ∃ A c, e = .returned (.slice A zs.length c) ∧ OwnQ 3 w' w.heap.size A c zs ∧ Below w.heap.size w w'

/-- append, at the operation, within a fence. -/
theorem wpListIn_append_que {F : Fence} {r : Nat} {P : Program} (w : World) {ops : Array Oper} {rest : List Oper} {o : Oper} {a : Act} {Q : Exit → Act → World → Prop} (hgd : o.guard = none) (s x : Operand) (t : TypeId)
    (ho : o.op = .call { callee := .builtin .append, args := #[s, x], argTypes := #[t, t] })
    (E : TypeId) (ht : P.underlying t = some (.slice E)) (hi : (P.info? E).map (fun i => (i.zero, i.size, i.bytes)) = some (some (.int .i64 0), 1, 8))
    (base : Nat) (A : Option Addr) (c : Nat) (xs : List Int) (n : Nat) (hn : n = xs.length) (hs : a.eval s = .slice A n c) (hown : OwnQ E w base A c xs) (B : Option Addr) (m d : Nat) (ys : List Int) (hx : a.eval x = .slice B m d) (hy : Ints w B m ys)
    (hb : (xs.length + m) * 8 ≤ 140737488351232) (hbase : base ≤ w.heap.size)
    (h : ∀ A' c' w', OwnQ E w' base A' c' (xs ++ ys) → w.grownBy w' (Value.slice A n c).ownBlock → (∀ k, (Value.slice A' 0 0).ownBlock = some k → (Value.slice A 0 0).ownBlock = some k ∨ w.heap.size ≤ k) → wpListIn F r P ops Q rest (a.put o.dst (.slice A' (xs ++ ys).length c')) w') :
    wpListIn F r P ops Q (o :: rest) a w := by
  subst hn
  refine wpListIn_plain hgd fun K hK => ?_
  obtain ⟨A', c', w', hr, h2, h3, h4⟩ := run_append_que (P := P) w t o.type E ht hi base A c xs hown B m d ys hy hb hbase
  unfold Oper.wpIn
  refine ⟨fun f hf => ?_, ?_⟩
  · simp [Oper.about, ho, resolve, Target.leads] at hf
  · rw [Oper.semAt_eq _ _ _ (by rw [ho]; intro c h; cases h)]
    unfold execOp
    simp only [ho, resolve, invoke, builtin, Sem.run_bind, Sem.run_pure, Result.andThen_ok, List.map_toArray, List.map_cons, List.map_nil, hs, hx, hr]
    exact hK _ _ (h A' c' w' h2 h3 h4)

/-- What holds behind the append, and behind the store of the slice. -/
theorem co_after {w W w5 : World} {C g q c c5 : Nat} {A A5 : Option Addr} {x : Int} {xs ys : List Int} (hC : C ≤ w.heap.size) (hg : g + 1 < w.heap.size) (h4 : Bk (W.alloc (.cells #[.int .i64 x] 3)) w.heap.size 22 #[.slice A q c]) (h5 : OwnQ 3 (W.alloc (.cells #[.int .i64 x] 3)) w.heap.size A c xs) (h6 : Below w.heap.size w W)
    (hg5 : (W.alloc (.cells #[.int .i64 x] 3)).grownBy w5 (Value.slice A q c).ownBlock) (hq5 : OwnQ 3 w5 w.heap.size A5 c5 ys) :
    Bk w5 w.heap.size 22 #[.slice A q c] ∧ KpN C g W (w5.setCell ⟨w.heap.size, 0, none⟩ (.slice A5 (q + 1) c5)) ∧ KeepsFrom (w.heap.size + 1) W (w5.setCell ⟨w.heap.size, 0, none⟩ (.slice A5 (q + 1) c5)) ∧
      Bk (w5.setCell ⟨w.heap.size, 0, none⟩ (.slice A5 (q + 1) c5)) w.heap.size 22 #[.slice A5 (q + 1) c5] ∧ OwnQ 3 (w5.setCell ⟨w.heap.size, 0, none⟩ (.slice A5 (q + 1) c5)) w.heap.size A5 c5 ys ∧ Below w.heap.size w (w5.setCell ⟨w.heap.size, 0, none⟩ (.slice A5 (q + 1) c5)) := by
  have hs6 := h6.size
  have hgb : (W.alloc (.cells #[.int .i64 x] 3)).grownBy w5 (blkA A) := by rw [blk_any] at hg5; exact hg5
  have hne : some w.heap.size ≠ blkA A := by
    intro e
    obtain ⟨cs', hk'⟩ := h5.type (n := 0) (d := 0) (k := w.heap.size) e.symm
    have := bk_types h4 hk'
    revert this; decide
  have KA5 := h4.grown hgb hne
  have hlow : ∀ k, blkA A = some k → w.heap.size ≤ k := fun k hk => (h5.block (n := 0) (d := 0) k hk).1
  have hb1 := h6.alloc hs6 (.cells #[.int .i64 x] 3)
  refine ⟨KA5, ?_, ?_, KA5.set_ 0 _, hq5.setOther (p := ⟨w.heap.size, 0, none⟩) (.inr ?_) _, (hb1.grown hgb hb1.size fun k hk => hlow k hk).setCell (p := ⟨w.heap.size, 0, none⟩) (Nat.le_refl _) _⟩
  · refine ((KpN.of_below ((Below.refl W.heap.size W).alloc (Nat.le_refl _) _) (by omega) (by omega)).trans ⟨hgb.size, fun k hk hkx => hgb.block k hkx ?_⟩).trans (KpN.set_ (p := ⟨w.heap.size, 0, none⟩) (by simp only []; omega) (by simp only []; omega) (by simp only []; omega) _)
    intro e
    have := hlow k e.symm
    omega
  · refine (((KeepsOthers.alloc W _).trans (KeepsOthers.of_grownBy hgb (fun j o hj ho => ?_))).trans (KeepsOthers.setCell _ _ _)).from _
    obtain ⟨cs', hk'⟩ := h5.type (n := 0) (d := 0) (k := j) hj
    have hk2 : (W.alloc (.cells #[.int .i64 x] 3)).heap[j]? = _ := hk'
    rw [hk2] at ho
    cases ho
    rfl
  · intro e
    obtain ⟨cs', hk'⟩ := hq5.type (n := 0) (d := 0) (k := w.heap.size) e
    have := bk_types KA5 hk'
    revert this; decide

set_option maxRecDepth 100000 in
set_option maxHeartbeats 4000000 in
theorem appendSeq_nodes (C g gf : Nat) (lb : Array Value) (next l : List Int) (w : World) (eg : ∀ args w, (callFunc gf args).run Try.prog w = .ok (.enter gf args) w) (hl : l.length ≤ 1024) (hn : next.length ≤ 1024)
    (hr : ∀ q, q < l.length → 0 ≤ nth l q ∧ nth l q < (next.length : Int)) (hx : ∀ q, q < l.length → nth next (nth l q).toNat = hdK l (q + 1)) (hC : C ≤ w.heap.size) (hg : g + 1 < w.heap.size)
    (hseq : ∀ w1, Below w.heap.size w w1 → SeqN 4 Try.prog gf lb (KpN C g) (hdK l 0) next w1) :
    Calls Try.prog 48 #[.slice none 0 0, .func (.func gf) #[] lb] w (RetI l w) := by
  have HX := Lib.hid hx
  have HRR := Lib.hid hr
  clear hx hr
  refine (callsIn_wide (n := 5)).1 ?_
  refine callsIn_of_wp_marks Try.func48 rfl trivial ?_
  simp only [Try.ntmps48, List.size_toArray, List.length_cons, List.length_nil, Nat.reduceAdd, Nat.reduceSub, Array.replicate_succ, Array.replicate_zero, List.push_toArray, List.append_toArray, List.nil_append, List.cons_append]
  gi_wp2
  have hb0 : Below w.heap.size w (w.alloc (.cells #[.slice none 0 0] 22)) := (Below.refl _ w).alloc (Nat.le_refl _) _
  have hs0 : (w.alloc (.cells #[.slice none 0 0] 22)).heap.size = w.heap.size + 1 := by simp
  have K0 := Bk.new w 22 #[.slice none 0 0]
  refine range_nodes (gf := gf) (lb := lb) rfl eg (hseq _ hb0) rfl (CoJ w l) (fun _ _ => False)
    (fun x a' _ => a' = { tmps := #[.slice none 0 0, .func (.func gf) #[] lb, .pointer (some ⟨w.heap.size, 0, none⟩), undef, .slice none 0 0, .int .i64 x, .func (.func gf) #[] lb, .int .i64 x, undef, undef, undef, undef, undef], defers := [] })
    (fun k x X Y h ht => h.turn ht (by simp)) (fun q X Y h _ => h) (fun x a' X Y h _ => h) (fun X Y hs ht => KpN.of_turn ht (by simp; omega) (by simp; omega)) (fun h k => h.trans k) l.length
    ⟨0, none, 0, Nat.zero_le _, by omega, rfl, K0, OwnQ.nil_ _ _ _, hb0⟩ ?hround ?hbody ?hdone ?hstop
  case hround =>
    intro l' k x W hj hx0 hx1
    gi_wp2
    exact ⟨KeepsFrom.refl _ _, ⟨Nat.le_refl _, fun _ _ _ => rfl⟩, hj, trivial⟩
  case hbody =>
    rintro l' kk x a' W ⟨q, A, c, hq, rfl, hxq, h4, h5, h6⟩ hx0 hx1 rfl
    have hql : q < l.length := by
      rcases Nat.lt_or_ge q l.length with h | h
      · exact h
      · rw [hxq] at hx0
        unfold hdK at hx0
        rw [if_neg (by omega)] at hx0
        omega
    have hxn : x = nth l q := by rw [hxq]; exact if_pos hql
    have HXN := Lib.hid hxn
    have HQ := Lib.hid h5
    have HB := Lib.hid h6
    have HK := Lib.hid h4
    have c8 := h4.one
    have hlen : (l.take q).length = q := by rw [List.length_take]; omega
    have HLEN := Lib.hid hlen
    have hxf : Fit x := by unfold Fit; omega
    have HXF := Lib.hid hxf
    have hs6 := h6.size
    have HQ1 := Lib.hid (h5.below ((Below.refl W.heap.size W).alloc (Nat.le_refl _) (.cells #[.int .i64 x] 3)))
    have HKA := Lib.hid (h4.alloc (.cells #[.int .i64 x] 3))
    have HNX : Hid (nth next x.toNat = hdK l (q + 1)) := Lib.hid (by rw [hxn]; exact HX.out q hql)
    have htk : l.take q ++ [x] = l.take (q + 1) := by rw [hxn]; exact take_snoc l q hql
    have HTK := Lib.hid htk
    clear h4 h5 h6 hxq hxn hlen hxf hseq K0 hb0 htk
    gi_wp2_with (gi_at_builtin; refine wpListIn_append_que _ rfl _ _ 22 rfl 3 Try.underlying22 Try.intInfo w.heap.size A c (l.take q) q HLEN.out.symm rfl HQ1.out (some ⟨W.heap.size, 0, none⟩) 1 1 [x] rfl (ints1 W 3 HXF.out) (by rw [HLEN.out]; omega) (by simp; omega) ?_; intro A5 c5 w5 hq5 hg5 hf5; rw [HTK.out] at hq5; have e5 : (l.take q ++ [x]).length = q + 1 := (by rw [List.length_append, HLEN.out]; rfl); rw [e5]; have HF := Lib.hid (co_after hC hg HKA.out HQ1.out HB.out hg5 hq5); have g0 := HF.out.1.one; have g1 := HF.out.1.frozen 0; clear hq5 hg5 hf5)
    exact ⟨by rw [hs0]; exact HF.out.2.2.1, HF.out.2.1, l.length - (q + 1), by omega, q + 1, A5, c5, by omega, rfl, HNX.out, HF.out.2.2.2.1, HF.out.2.2.2.2.1, HF.out.2.2.2.2.2⟩
  case hdone =>
    rintro D' kk x W hD hx ⟨q, A, c, hq, hk, hxq, h4, h5, h6⟩ hd
    have hql : q = l.length := by
      rcases Nat.lt_or_ge q l.length with h | h
      · have h1 := HRR.out q h
        have h2 : hdK l q = nth l q := if_pos h
        omega
      · omega
    subst hql
    rw [List.take_of_length_le (Nat.le_refl _)] at h5
    have c0 := h4.one
    have ht := Turn.put (B := w.heap.size) (.deferred none) hd (by rw [hs0] at hD; omega) rfl
    have H5 := Lib.hid (h5.turn ht)
    have H6 := Lib.hid (ht.below h6 (Nat.le_refl _) (Nat.le_refl _))
    clear h4 h5 h6 hseq K0 hb0 ht
    gi_wp2
    refine ⟨by simp, .inl ⟨_, _, rfl, run_takeDeferred hd, ?_⟩⟩
    exact ⟨_, results_tmp rfl _ _ _, A, c, rfl, H5.out, H6.out⟩
  case hstop => exact fun _ _ _ _ h _ => h.elim

end Go.Proofs.Ytiheeehegjfmgaa

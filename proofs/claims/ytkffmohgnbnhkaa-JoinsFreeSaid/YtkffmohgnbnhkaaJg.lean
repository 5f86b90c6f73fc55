/-
  Layer 11, the program: leads (a way is gone till it comes to somebody); a way's numbers, gathered.
-/
import Derived.Test.YtkffmohgnbnhkaaJf
import Derived.Test.YtkffmohgnbnhkaaJe
import Derived.Maps.AppendAt
import Derived.RangeFuncBox
namespace Go.Proofs.Ytkffmohgnbnhkaa
open Go.RowKit Go.Maps Go.Shelf
attribute [local go_sem] Oper.semAt_some wide_depth

theorem Bk.turn {B : Nat} {w w' : World} {g : Nat} {t : TypeId} {cs : Array Value} (h : Bk w g t cs) (ht : Turn B w w') : Bk w' g t cs := ht.same _ _ h (.inl rfl)
theorem row_turn {B : Nat} {w w' : World} {base : Nat} {E : TypeId} {sz n : Nat} {v : Value} {xs : List Value} (h : w.ownsRow base E sz v n xs) (ht : Turn B w w') : w'.ownsRow base E sz v n xs := by
  refine ⟨h.1, ?_⟩
  rcases h.2 with h2 | ⟨g, cap, cur, e, hb, hh, r⟩
  · exact .inl h2
  · exact .inr ⟨g, cap, cur, e, hb, ht.same _ _ hh (.inl rfl), r⟩
theorem OwnI.turn {E : TypeId} {B : Nat} {w w' : World} {base : Nat} {A : Option Addr} {c : Nat} {p : List Int} (h : OwnI E w base A c p) (ht : Turn B w w') : OwnI E w' base A c p := ⟨h.1, h.2.1, row_turn h.2.2 ht⟩

/-- Between two rounds of leads: from somebody z on zs come yet. -/
def LeI (w : World) (l : List Tm) (tz : Int) (ys : List Int) (k : Nat) (y : Int) (W : World) : Prop :=
  ∃ z zs, Path l z zs ∧ onL l z = y ∧ k = zs.length ∧ (tz ∈ ys ↔ tz ∈ zs) ∧ Bk W w.heap.size 2 #[.int .i64 tz] ∧ Bk W (w.heap.size + 1) 4 #[.bool false] ∧ Below w.heap.size w W
def LeZ (w : World) (tz : Int) (ys : List Int) (c : Code) (W : World) : Prop :=
  c = .ret ∧ tz ∈ ys ∧ Bk W (w.heap.size + 1) 4 #[.bool true] ∧ Below w.heap.size w W

set_option maxRecDepth 100000 in
set_option maxHeartbeats 4000000 in
theorem leads_any (b n : Nat) (l : List Tm) (x tz : Int) (ys : List Int) (w : World) (hz : ZMap w b n (onL l)) (hx : Fit x) (hp : Path l x ys) :
    Calls Try.prog 24 #[.map (some b), .int .i64 x, .int .i64 tz] w (RetB (.bool (decide (x = tz ∨ tz ∈ ys))) w) := by
  have HP := Lib.hid hp
  have HXF := Lib.hid hx
  obtain ⟨r, hr⟩ : ∃ r, decide (x = tz ∨ tz ∈ ys) = r := ⟨_, rfl⟩
  rw [hr]
  have HR := Lib.hid hr
  have hb2 := ((Below.refl w.heap.size w).alloc (Nat.le_refl _) (.cells #[.int .i64 tz] 2)).alloc (by simp) (.cells #[.bool false] 4)
  have K1 := (Bk.new w 2 #[.int .i64 tz]).alloc (.cells #[.bool false] 4)
  have K2 := Bk.new (w.alloc (.cells #[.int .i64 tz] 2)) 4 #[.bool false]
  rw [size_alloc] at K2
  have hs2 : ((w.alloc (.cells #[.int .i64 tz] 2)).alloc (.cells #[.bool false] 4)).heap.size = w.heap.size + 2 := by simp
  have Z2 := hz.below hb2
  have hway := way_any b x ((w.alloc (.cells #[.int .i64 tz] 2)).alloc (.cells #[.bool false] 4))
  have hL := lie_new (C := w.heap.size) Z2 hz.lt x
  have hb4 := ((Below.refl ((w.alloc (.cells #[.int .i64 tz] 2)).alloc (.cells #[.bool false] 4)).heap.size _).alloc (Nat.le_refl _) (.cells #[.map (some b)] 46)).alloc (by simp) (.cells #[.int .i64 x] 2)
  have K1' := K1.below hb4 K1.lt
  have K2' := K2.below hb4 K2.lt
  have hb6 := below3 hb2 hb4
  have hs6 : ((((w.alloc (.cells #[.int .i64 tz] 2)).alloc (.cells #[.bool false] 4)).alloc (.cells #[.map (some b)] 46)).alloc (.cells #[.int .i64 x] 2)).heap.size = w.heap.size + 4 := by simp
  rw [hs2] at hL hway
  clear hp hr hx hz hb2 hb4 K1 K2 Z2
  refine (callsIn_wide (n := 5)).1 ?_
  refine callsIn_of_wp_marks Try.func24 rfl trivial ?_
  simp only [Try.ntmps24, List.size_toArray, List.length_cons, List.length_nil, Nat.reduceAdd, Nat.reduceSub, Array.replicate_succ, Array.replicate_zero, List.push_toArray, List.append_toArray, List.nil_append, List.cons_append]
  gi_wp2_with (refine ⟨trivial, ?_⟩; gi_at_call 31; refine (callsIn_wide.2 hway).mono ?_; rintro e w6 ⟨rfl, rfl⟩)
  clear hway
  generalize (((w.alloc (.cells #[.int .i64 tz] 2)).alloc (.cells #[.bool false] 4)).alloc (.cells #[.map (some b)] 46)).alloc (.cells #[.int .i64 x] 2) = w6 at hL K1' K2' hb6 hs6 ⊢
  have hww : w.heap.size ≤ w6.heap.size := by omega
  refine range_way (gf := 38) (lb := #[.pointer (some ⟨w.heap.size + 2, 0, none⟩), .pointer (some ⟨w.heap.size + 2 + 1, 0, none⟩)]) rfl eg_way
    (way1_seq 4 w.heap.size (w.heap.size + 2) b n (onL l) x w6 HXF.out hww hL) rfl
    (LeI w l tz ys) (LeZ w tz ys)
    (fun y a' _ => a' = { tmps := #[.map (some b), .int .i64 x, .int .i64 tz, undef, undef, .pointer (some ⟨w.heap.size, 0, none⟩), .pointer (some ⟨w.heap.size + 1, 0, none⟩), .int .i64 y, .map (some b), .int .i64 x, .func (.func 38) #[] #[.pointer (some ⟨w.heap.size + 2, 0, none⟩), .pointer (some ⟨w.heap.size + 2 + 1, 0, none⟩)], .int .i64 y, undef, undef, undef, undef, undef, undef], defers := [] })
    (fun k y X Y h ht => by obtain ⟨z, zs, h1, h2, h3, h4, h5, h6, h7⟩ := h; exact ⟨z, zs, h1, h2, h3, h4, h5.turn ht, h6.turn ht, ht.below h7 hww (Nat.le_refl _)⟩) (fun q X Y h ht => by obtain ⟨e, h1, h2, h3⟩ := h; exact ⟨e, h1, h2.turn ht, ht.below h3 hww (Nat.le_refl _)⟩) (fun y a' X Y h _ => h)
    (fun X Y hs ht => KpN.of_turn ht hww (by omega)) (fun h k => h.trans k) ys.length ⟨x, ys, HP.out, rfl, rfl, Iff.rfl, K1', K2', hb6⟩ ?hround ?hbody ?hdone ?hstop
  case hround =>
    intro l' k y W hj hx0
    gi_wp2
    exact ⟨KeepsFrom.refl _ _, KpN.refl _ _ _, hj, trivial⟩
  case hbody =>
    rintro l' kk y a' W ⟨z, zs, h1, h2, rfl, h4, h5, h6, h7⟩ hx0 rfl
    have H1 := Lib.hid h1
    have H2 := Lib.hid h2
    have H4 := Lib.hid h4
    have H5 := Lib.hid h5
    have H6 := Lib.hid h6
    have H7 := Lib.hid h7
    have c5 := h5.one
    have c6 := h6.one
    have f6 := h6.frozen 0
    have HX0 := Lib.hid hx0
    have HZS : Hid (∃ zs', zs = y :: zs' ∧ Path l y zs') := Lib.hid (by
      cases h1 with
      | stop h => omega
      | step h q => rw [h2] at q ⊢; exact ⟨_, rfl, q⟩)
    clear h1 h2 h4 h5 h6 h7 K1' K2' hL hx0
    by_cases e : y = tz
    · have heb : (y == tz) = true := by simpa using e
      have HZ : Hid (LeZ w tz ys .ret (W.setCell ⟨w.heap.size + 1, 0, none⟩ (.bool true))) := Lib.hid ⟨rfl, by
        obtain ⟨zs', hz', _⟩ := HZS.out
        rw [H4.out, hz', e]; simp, H6.out.set_ 0 _, H7.out.setCell (p := ⟨w.heap.size + 1, 0, none⟩) (by simp only []; omega) _⟩
      clear e
      gi_wp2
      exact ⟨(KeepsOthers.setCell _ _ _).from _, HZ.out⟩
    · have heb : (y == tz) = false := by simpa using e
      have HF : Hid (∃ k', k' < zs.length ∧ LeI w l tz ys k' (onL l y) W) := Lib.hid (by
        obtain ⟨zs', hz', hp'⟩ := HZS.out
        refine ⟨zs'.length, by rw [hz']; simp, y, zs', hp', rfl, rfl, ?_, H5.out, H6.out, H7.out⟩
        rw [H4.out, hz']
        simp [Ne.symm e])
      clear e
      gi_wp2
      exact ⟨KeepsFrom.refl _ _, KpN.refl _ _ _, HF.out⟩
  case hdone =>
    rintro D' kk y W hD hx ⟨z, zs, h1, h2, hk, h4, h5, h6, h7⟩ hd
    have hzs : zs = [] := by
      cases h1 with
      | stop h => rfl
      | step h q => omega
    subst hzs
    have HNO : Hid (tz ∉ ys) := Lib.hid (by rw [h4]; simp)
    have HE : Hid ((x == tz) = r) := Lib.hid (by
      rw [← HR.out]
      by_cases e : x = tz
      · rw [decide_eq_true (.inl e)]; simpa using e
      · rw [decide_eq_false (by rintro (q | q); exact e q; exact HNO.out q)]; simpa using e)
    have c5 := h5.one
    have c6 := h6.one
    have f6 := h6.frozen 0
    have l6 := h6.lt
    have hd2 : (W.setCell ⟨w.heap.size + 1, 0, none⟩ (.bool r)).heap[D']? = some (.deferred (some [])) := (Below.heap_setCell W _ _ D' (by simp only []; omega)).trans hd
    have ht := Turn.put (B := w6.heap.size) (.deferred none) hd2 hD rfl
    have K6 := Lib.hid ((h6.set_ 0 (.bool r)).turn ht)
    have HB6 := Lib.hid (ht.below (h7.setCell (p := ⟨w.heap.size + 1, 0, none⟩) (by simp only []; omega) (.bool r)) hww (Nat.le_refl _))
    clear h1 h2 hk h4 h5 h6 h7 K1' K2' hL ht
    gi_wp2
    rw [HE.out]
    refine ⟨by simp, .inl ⟨_, _, rfl, run_takeDeferred hd2, ?_⟩⟩
    have q6 := K6.out.one
    refine ⟨.bool r, ?_, rfl, HB6.out⟩
    simp [results, Try.results24, go_sem, *]
  case hstop =>
    rintro D' q W hD ⟨rfl, hm, h6, h7⟩ hd
    have ht := Turn.put (B := w6.heap.size) (.deferred none) hd hD rfl
    have K6 := Lib.hid (h6.turn ht)
    have HB6 := Lib.hid (ht.below h7 hww (Nat.le_refl _))
    have HE : Hid (r = true) := Lib.hid (by rw [← HR.out]; exact decide_eq_true (.inr hm))
    clear h6 h7 K1' K2' hL hm ht
    gi_wp2
    refine ⟨by simp, .inl ⟨_, _, rfl, run_takeDeferred hd, ?_⟩⟩
    have q6 := K6.out.one
    refine ⟨.bool true, ?_, by rw [HE.out], HB6.out⟩
    simp [results, Try.results24, go_sem, *]

/-- append, at the operation, within a fence. -/
theorem wpListIn_append_ints {F : Fence} {r : Nat} {P : Program} (w : World) {ops : Array Oper} {rest : List Oper} {o : Oper} {a : Act} {Q : Exit → Act → World → Prop} (hgd : o.guard = none) (s x : Operand) (t : TypeId)
    (ho : o.op = .call { callee := .builtin .append, args := #[s, x], argTypes := #[t, t] })
    (E : TypeId) (ht : P.underlying t = some (.slice E)) (hi : (P.info? E).map (fun i => (i.zero, i.size, i.bytes)) = some (some (.int .i64 0), 1, 8))
    (base : Nat) (A : Option Addr) (c : Nat) (xs : List Int) (n : Nat) (hn : n = xs.length) (hs : a.eval s = .slice A n c) (hown : OwnI E w base A c xs) (B : Option Addr) (m d : Nat) (ys : List Int) (hx : a.eval x = .slice B m d) (hy : Ints w B m ys)
    (hb : (xs.length + m) * 8 ≤ 140737488351232) (hbase : base ≤ w.heap.size)
    (h : ∀ A' c' w', OwnI E w' base A' c' (xs ++ ys) → w.grownBy w' (Value.slice A n c).ownBlock → wpListIn F r P ops Q rest (a.put o.dst (.slice A' (xs ++ ys).length c')) w') :
    wpListIn F r P ops Q (o :: rest) a w := by
  subst hn
  refine wpListIn_plain hgd fun K hK => ?_
  obtain ⟨v', w', hr, A', c', rfl, h2, h3⟩ := run_append_ints (P := P) w t o.type E ht hi base A c xs hown B m d ys hy hb hbase
  unfold Oper.wpIn
  refine ⟨fun f hf => ?_, ?_⟩
  · simp [Oper.about, ho, resolve, Target.leads] at hf
  · rw [Oper.semAt_eq _ _ _ (by rw [ho]; intro c h; cases h)]
    unfold execOp
    simp only [ho, resolve, invoke, builtin, Sem.run_bind, Sem.run_pure, Result.andThen_ok, List.map_toArray, List.map_cons, List.map_nil, hs, hx, hr]
    exact hK _ _ (h A' c' w' h2 h3)

/-- What holds behind the append, and behind the store of the slice. -/
theorem co_after {w W w5 : World} {C g c c5 : Nat} {A A5 : Option Addr} {x : Int} {xs ys : List Int} (hC : C ≤ w.heap.size) (hg : g + 1 < w.heap.size) (h4 : Bk (W.alloc (.cells #[.int .i64 x] 2)) w.heap.size 27 #[.slice A xs.length c]) (h5 : OwnI 2 (W.alloc (.cells #[.int .i64 x] 2)) w.heap.size A c xs) (h6 : Below w.heap.size w W)
    (hg5 : (W.alloc (.cells #[.int .i64 x] 2)).grownBy w5 (Value.slice A xs.length c).ownBlock) (hq5 : OwnI 2 w5 w.heap.size A5 c5 ys) :
    Bk w5 w.heap.size 27 #[.slice A xs.length c] ∧ KpN C g W (w5.setCell ⟨w.heap.size, 0, none⟩ (.slice A5 ys.length c5)) ∧ KeepsFrom (w.heap.size + 1) W (w5.setCell ⟨w.heap.size, 0, none⟩ (.slice A5 ys.length c5)) ∧
      Bk (w5.setCell ⟨w.heap.size, 0, none⟩ (.slice A5 ys.length c5)) w.heap.size 27 #[.slice A5 ys.length c5] ∧ OwnI 2 (w5.setCell ⟨w.heap.size, 0, none⟩ (.slice A5 ys.length c5)) w.heap.size A5 c5 ys ∧ Below w.heap.size w (w5.setCell ⟨w.heap.size, 0, none⟩ (.slice A5 ys.length c5)) := by
  have hs6 := h6.size
  have bad : ∀ {U : World} {v : Value}, Bk U w.heap.size 27 #[v] → ∀ {A' : Option Addr} {c' : Nat} {zs : List Int}, OwnI 2 U w.heap.size A' c' zs → ∀ {i d : Nat}, (Value.slice A' i d).ownBlock ≠ some w.heap.size := by
    intro U v hk A' c' zs ho i d e
    obtain ⟨cs, cur, h1⟩ := own_row ho.2.2 e
    rw [show U.heap[w.heap.size]? = _ from hk] at h1
    injection h1 with h1
    injection h1 with _ h1 _
    revert h1; decide
  have KA5 := h4.grown hg5 (fun e => bad h4 h5 e.symm)
  have hlow : ∀ k, (Value.slice A xs.length c).ownBlock = some k → w.heap.size ≤ k := fun k hk => h5.block k hk
  have hb1 := h6.alloc hs6 (.cells #[.int .i64 x] 2)
  have hK : KpN C g W (w5.setCell ⟨w.heap.size, 0, none⟩ (.slice A5 ys.length c5)) := by
    refine ((KpN.of_below ((Below.refl W.heap.size W).alloc (Nat.le_refl _) _) (by omega) (by omega)).trans (KpN.of_grown hg5 (fun k hk => ?_))).trans ⟨by simp [World.setCell], fun k hk _ => Below.heap_setCell w5 _ _ k (by simp only []; omega)⟩
    have := hlow k hk
    omega
  refine ⟨KA5, hK, ?_, KA5.set_ 0 _, ⟨hq5.1, hq5.2.1, ownsRow_setCell_other hq5.2.2 (fun e => bad KA5 hq5 e) _⟩, (hb1.grown hg5 hb1.size hlow).setCell (p := ⟨w.heap.size, 0, none⟩) (Nat.le_refl _) _⟩
  refine (((KeepsOthers.alloc W _).trans (KeepsOthers.of_grownBy hg5 (fun j o hj ho => ?_))).trans (KeepsOthers.setCell _ _ _)).from _
  obtain ⟨cs', cur, hk'⟩ := own_row h5.2.2 hj
  rw [hk'] at ho
  cases ho
  rfl

/-- Between two rounds: what came so far is gathered, and what comes yet. -/
def CoI (w : World) (l : List Tm) (ys : List Int) (k : Nat) (y : Int) (W : World) : Prop :=
  ∃ z zs pre A c, Path l z zs ∧ onL l z = y ∧ k = zs.length ∧ ys = pre ++ zs ∧ Bk W w.heap.size 27 #[.slice A pre.length c] ∧ OwnI 2 W w.heap.size A c pre ∧ Below w.heap.size w W

set_option maxRecDepth 100000 in
set_option maxHeartbeats 4000000 in
theorem appendSeq_way (C g gf : Nat) (lb : Array Value) (l : List Tm) (x : Int) (ys : List Int) (w : World) (eg : ∀ args w, (callFunc gf args).run Try.prog w = .ok (.enter gf args) w) (hp : Path l x ys) (hl : ys.length ≤ 1000) (hf : ∀ y ∈ ys, Fit y) (hC : C ≤ w.heap.size) (hg : g + 1 < w.heap.size)
    (hseq : ∀ w1, Below w.heap.size w w1 → SeqW 4 Try.prog gf lb (KpN C g) (onL l) (onL l x) w1) :
    Calls Try.prog 37 #[.slice none 0 0, .func (.func gf) #[] lb] w (NewI 2 ys w) := by
  have HP := Lib.hid hp
  have HFY := Lib.hid hf
  clear hp hf
  refine (callsIn_wide (n := 5)).1 ?_
  refine callsIn_of_wp_marks Try.func37 rfl trivial ?_
  simp only [Try.ntmps37, List.size_toArray, List.length_cons, List.length_nil, Nat.reduceAdd, Nat.reduceSub, Array.replicate_succ, Array.replicate_zero, List.push_toArray, List.append_toArray, List.nil_append, List.cons_append]
  gi_wp2
  have hb0 : Below w.heap.size w (w.alloc (.cells #[.slice none 0 0] 27)) := (Below.refl _ w).alloc (Nat.le_refl _) _
  have hs0 : (w.alloc (.cells #[.slice none 0 0] 27)).heap.size = w.heap.size + 1 := by simp
  have K0 := Bk.new w 27 #[.slice none 0 0]
  refine range_way (gf := gf) (lb := lb) rfl eg (hseq _ hb0) rfl (CoI w l ys) (fun _ _ => False)
    (fun y a' _ => a' = { tmps := #[.slice none 0 0, .func (.func gf) #[] lb, .pointer (some ⟨w.heap.size, 0, none⟩), undef, .slice none 0 0, .int .i64 y, .func (.func gf) #[] lb, .int .i64 y, undef, undef, undef, undef, undef], defers := [] })
    (fun k y X Y h ht => by obtain ⟨z, zs, pre, A, c, h1, h2, h3, h4, h5, h6, h7⟩ := h; exact ⟨z, zs, pre, A, c, h1, h2, h3, h4, h5.turn ht, h6.turn ht, ht.below h7 (by simp) (Nat.le_refl _)⟩) (fun q X Y h _ => h) (fun y a' X Y h _ => h) (fun X Y hs ht => KpN.of_turn ht (by simp; omega) (by simp; omega)) (fun h k => h.trans k) ys.length
    ⟨x, ys, [], none, 0, HP.out, rfl, rfl, rfl, K0, OwnI.nil_ _ _ _, hb0⟩ ?hround ?hbody ?hdone ?hstop
  case hround =>
    intro l' k y W hj hx0
    gi_wp2
    exact ⟨KeepsFrom.refl _ _, KpN.refl _ _ _, hj, trivial⟩
  case hbody =>
    rintro l' kk y a' W ⟨z, zs, pre, A, c, h1, h2, rfl, h4, h5, h6, h7⟩ hx0 rfl
    obtain ⟨zs', hz', hp'⟩ : ∃ zs', zs = y :: zs' ∧ Path l y zs' := by
      cases h1 with
      | stop h => omega
      | step h q => rw [h2] at q ⊢; exact ⟨_, rfl, q⟩
    subst hz'
    have hlen : pre.length + (zs'.length + 1) = ys.length := by rw [h4]; simp
    have HYF : Hid (Fit y) := Lib.hid (HFY.out y (by rw [h4]; simp))
    have HYS : Hid (ys = (pre ++ [y]) ++ zs') := Lib.hid (by rw [h4]; simp)
    have HP' := Lib.hid hp'
    have HB := Lib.hid h7
    have c8 := h5.one
    have hs6 := h7.size
    have HQ1 := Lib.hid (h6.below ((Below.refl W.heap.size W).alloc (Nat.le_refl _) (.cells #[.int .i64 y] 2)))
    have HKA := Lib.hid (h5.alloc (.cells #[.int .i64 y] 2))
    have hpl : pre.length ≤ 1000 := by omega
    have HLT : Hid (zs'.length < (y :: zs').length) := Lib.hid (by simp)
    clear h1 h2 h4 h5 h6 h7 hseq K0 hb0 hp' hlen
    gi_wp2_with (gi_at_builtin; refine wpListIn_append_ints _ rfl _ _ 27 rfl 2 Try.underlying27 infoI8 w.heap.size A c pre _ rfl rfl HQ1.out (some ⟨W.heap.size, 0, none⟩) 1 1 [y] rfl (ints1 W 2 HYF.out) (by omega) (by simp; omega) ?_; intro A5 c5 w5 hq5 hg5; have e5 : (pre ++ [y]).length = pre.length + 1 := (by simp); have HF := Lib.hid (co_after hC hg HKA.out HQ1.out HB.out hg5 hq5); rw [e5] at HF; rw [e5]; have g0 := HF.out.1.one; have g1 := HF.out.1.frozen 0; clear hq5 hg5)
    exact ⟨by rw [hs0]; exact HF.out.2.2.1, HF.out.2.1, zs'.length, HLT.out, y, zs', pre ++ [y], A5, c5, HP'.out, rfl, rfl, HYS.out, by rw [e5]; exact HF.out.2.2.2.1, HF.out.2.2.2.2.1, HF.out.2.2.2.2.2⟩
  case hdone =>
    rintro D' kk y W hD hx ⟨z, zs, pre, A, c, h1, h2, hk, h4, h5, h6, h7⟩ hd
    have hzs : zs = [] := by
      cases h1 with
      | stop h => rfl
      | step h q => omega
    subst hzs
    rw [List.append_nil] at h4
    subst h4
    have c0 := h5.one
    have ht := Turn.put (B := w.heap.size) (.deferred none) hd (by rw [hs0] at hD; omega) rfl
    have H5 := Lib.hid (h6.turn ht)
    have H6 := Lib.hid (ht.below h7 (Nat.le_refl _) (Nat.le_refl _))
    clear h1 h2 h5 h6 h7 hseq K0 hb0 ht
    gi_wp2
    refine ⟨by simp, .inl ⟨_, _, rfl, run_takeDeferred hd, ?_⟩⟩
    exact ⟨_, results_tmp rfl _ _ _, A, c, rfl, H5.out, H6.out⟩
  case hstop => exact fun _ _ _ _ h _ => h.elim

theorem collect_way (C g gf : Nat) (lb : Array Value) (l : List Tm) (x : Int) (ys : List Int) (w : World) (eg : ∀ args w, (callFunc gf args).run Try.prog w = .ok (.enter gf args) w) (hp : Path l x ys) (hl : ys.length ≤ 1000) (hf : ∀ y ∈ ys, Fit y) (hC : C ≤ w.heap.size) (hg : g + 1 < w.heap.size)
    (hseq : ∀ w1, Below w.heap.size w w1 → SeqW 4 Try.prog gf lb (KpN C g) (onL l) (onL l x) w1) :
    Calls Try.prog 30 #[.func (.func gf) #[] lb] w (NewI 2 ys w) := by
  have HA := Lib.hid (appendSeq_way C g gf lb l x ys w eg hp hl hf hC hg hseq)
  clear hp hf hseq eg
  go_enter Try.func30, Try.ntmps30
  go_wp2_with fail
  refine HA.out.mono ?_
  rintro e w1 ⟨A, c, rfl, ho, hb⟩
  have HO := Lib.hid ho
  have HB := Lib.hid hb
  clear ho hb
  go_wp2_with fail
  go_ret
  exact ⟨A, c, rfl, HO.out, HB.out⟩

end Go.Proofs.Ytkffmohgnbnhkaa

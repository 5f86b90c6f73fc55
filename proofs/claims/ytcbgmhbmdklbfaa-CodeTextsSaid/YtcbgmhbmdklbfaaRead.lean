/-
  The contract of Read of layer 4: what octets are taken for.
-/
import Derived.Test.YtcbgmhbmdklbfaaEach
import Derived.Test.YtcbgmhbmdklbfaaWrite
import Derived.Lib.SliceRun
namespace Go.Proofs.Ytcbgmhbmdklbfaa
open Go.RowKit Go.Shelf
attribute [local go_sem] Oper.semAt_some wide_depth

theorem OwnT.turn {E F : TypeId} {B : Nat} {w w' : World} {base : Nat} {A : Option Addr} {c : Nat} {hs : List Hd} {l : List (List I3)} (h : OwnT E F w base A c hs l) (ht : Turn B w w') : OwnT E F w' base A c hs l :=
  ⟨h.1, fun j hj => ⟨(h.2.1 j hj).1, (h.2.1 j hj).2.turn ht⟩, row_turn h.2.2 ht⟩
theorem OwnT.box {E F t : TypeId} {W : World} {base B : Nat} {A : Option Addr} {c : Nat} {hs : List Hd} {l : List (List I3)} (h : OwnT E F W base A c hs l) {u : Value} (hb : Boxed W B t u) (hE : t ≠ E) (hF : t ≠ F) (v' : Value) : OwnT E F (W.setCell ⟨B, 0, none⟩ v') base A c hs l :=
  ⟨h.1, fun j hj => ⟨(h.2.1 j hj).1, (h.2.1 j hj).2.1, (h.2.1 j hj).2.2.1, (h.2.1 j hj).2.2.2.kept (grownBy_setCell' W B v') (.inr (hb.not_row hF (h.2.1 j hj).2.2.2).symm)⟩, h.2.2.kept (grownBy_setCell' W B v') (.inr (hb.not_row hE h.2.2).symm)⟩

theorem Try.rowInfo : (Try.prog.info? 25).map (fun i => (i.zero, i.size, i.bytes)) = some (some (.slice none 0 0), 1, 24) := by kernel_rfl

theorem write_yes (A : Option Addr) (n c : Nat) (l : List (List I3)) (w : World) (hp : Prgs w A n l) (h : okL l) :
    Calls Try.prog 22 #[.slice A n c] w fun e w' => ∃ A c, e = .returned (.tuple #[.slice A (txtL l).length c, .int .i64 0]) ∧ OwnO 5 w' w.heap.size A c (txtL l) ∧ Below w.heap.size w w' :=
  (write_any A n c l w hp).mono fun _ _ hx => hx.elim (fun k => k.2) (fun k => absurd h k.1)
theorem write_not (A : Option Addr) (n c : Nat) (l : List (List I3)) (w : World) (hp : Prgs w A n l) (h : ¬ okL l) :
    Calls Try.prog 22 #[.slice A n c] w fun e w' => e = .returned (.tuple #[.slice none 0 0, .int .i64 1]) ∧ Below w.heap.size w w' :=
  (write_any A n c l w hp).mono fun _ _ hx => hx.elim (fun k => absurd k.1 h) (fun k => k.2)

theorem equal_any (A B : Option Addr) (n m c d : Nat) (xs ys : List Int) (w : World) (hx : Octs w A n xs) (hy : Octs w B m ys) :
    Calls Try.prog 39 #[.slice A n c, .slice B m d] w fun e w' => e = .returned (.bool (sameB xs ys)) ∧ w = w' := by
  have h1 := hx.convert (P := Try.prog) c 35 5 9 Try.underlying35 Try.underlying5 Try.underlying9
  have h2 := hy.convert (P := Try.prog) d 35 5 9 Try.underlying35 Try.underlying5 Try.underlying9
  have HS := Lib.hid (str_same hx.2.2.1 hy.2.2.1)
  clear hx hy
  go_enter Try.func39, Try.ntmps39
  go_wp2
  go_ret
  exact ⟨ret_bool HS.out, rfl⟩

/-- What Read answers: programs, or that these are none. -/
def ReadAns (bs : List Int) (w : World) (e : Ending) (w' : World) : Prop :=
  (∃ l A c, readA bs = some l ∧ e = .returned (.tuple #[.slice A l.length c, .int .i64 0]) ∧ Prgs w' A l.length l ∧ Below w.heap.size w w') ∨
  (readA bs = none ∧ e = .returned (.tuple #[.slice none 0 0, .int .i64 2]) ∧ Below w.heap.size w w')

/-- Between two rounds: the box holds a row of the programs that came so far. -/
def RI (w : World) (pre : List (Hd × List I3)) (W : World) : Prop :=
  ∃ A c, Bk W w.heap.size 22 #[.slice A (pre.map Prod.snd).length c] ∧ OwnT 25 42 W w.heap.size A c (pre.map Prod.fst) (pre.map Prod.snd) ∧ Below w.heap.size w W
def RA (w : World) (b t9 : Value) (x : Hd × List I3) (a' : Act) (W : World) : Prop :=
  PV w.heap.size x W ∧
    a' = { tmps := #[b, undef, .slice none 0 0, .int .i64 0, .pointer (some ⟨w.heap.size, 0, none⟩), hv x.1, undef, undef, b, t9, hv x.1, undef, undef, undef, undef, undef, undef, undef, undef, undef, undef, undef, undef, undef, undef, undef, undef, undef, undef], defers := [] }

set_option maxRecDepth 100000 in
set_option maxHeartbeats 4000000 in
theorem read_any (A : Option Addr) (n c : Nat) (bs : List Int) (w : World) (h : OctB w.heap.size w A n c bs) (hn : n ≤ 3000) :
    Calls Try.prog 24 #[.slice A n c] w (ReadAns bs w) := by
  have HO := Lib.hid h
  clear h
  refine (callsIn_wide (n := 5)).1 ?_
  refine callsIn_of_wp_marks Try.func24 rfl trivial ?_
  simp only [Try.ntmps24, List.size_toArray, List.length_cons, List.length_nil, Nat.reduceAdd, Nat.reduceSub, Array.replicate_succ, Array.replicate_zero, List.push_toArray, List.append_toArray, List.nil_append, List.cons_append]
  gi_wp2
  refine ⟨trivial, ?_⟩
  refine (callsIn_wide.2 (programs_any A n c _)).mono ?_
  rintro e w2 ⟨rfl, rfl⟩
  have HB2 := Lib.hid (((Below.refl w.heap.size w).alloc (Nat.le_refl _) (.cells #[.slice none 0 0] 22)).alloc (by simp) (.cells #[.slice A n c] 35))
  have HX2 := Lib.hid ((Bk.new w 22 #[.slice none 0 0]).alloc (.cells #[.slice A n c] 35))
  have HG2 := Lib.hid (Bk.new (w.alloc (.cells #[.slice none 0 0] 22)) 35 #[.slice A n c])
  generalize (w.alloc (.cells #[.slice none 0 0] 22)).alloc (.cells #[.slice A n c] 35) = w2 at HB2 HX2 HG2 ⊢
  generalize (w.alloc (.cells #[.slice none 0 0] 22)).heap.size = g at HG2 ⊢
  gi_wp2
  refine range_all rfl eg_programs (programs1_seq 4 w.heap.size g A n c bs w2 HG2.out (HO.out.below HB2.out) HB2.out.size) (fun _ => rfl) (RI w) (RA w (.slice A n c) (.func (.func 45) #[] #[.pointer (some ⟨g, 0, none⟩)])) ?hI ?hS ?hA ?hK (fun h k => h.trans k) ?h0 ?round ?body ?done
  case hI =>
    rintro pre X Y ⟨A, c, h1, h2, h3⟩ ht
    exact ⟨A, c, h1.turn ht, h2.turn ht, ht.below h3 HB2.out.size (Nat.le_refl _)⟩
  case hS => intro s X Y h _; exact h
  case hA =>
    rintro x a' X Y ⟨⟨h1, h2⟩, h3⟩ ht
    exact ⟨⟨h1, h2.turn ht⟩, h3⟩
  case hK => intro X Y hs ht; exact ht.below (Below.refl _ _) HB2.out.size (Nat.le_trans HB2.out.size hs)
  case h0 => exact ⟨none, 0, HX2.out, OwnT.nil_ _ _ _ _, HB2.out⟩
  case round =>
    rintro l pre x W hi hv hlen
    have HI := Lib.hid hi
    have HV := Lib.hid hv
    clear hi hv
    simp only [encPr]
    gi_wp2
    exact ⟨(KeepsOthers.refl _).from _, Below.refl _ _, HI.out, HV.out, rfl⟩
  case body =>
    rintro l pre ⟨⟨A5, r5, c5⟩, p⟩ a' W ⟨A1, c1, h1, h2, h3⟩ ⟨⟨hx1, hx2⟩, rfl⟩ hlen
    simp only [hv]
    have hs := h3.size
    have c8 := h1.one
    have hlb : (pre.map Prod.snd).length + 1 ≤ 1000 := by
      obtain ⟨v, hv0, hv1⟩ := hdV_nat HO.out.2.2.1
      rw [hv0] at hlen
      rw [List.length_map]
      simp at hlen
      omega
    generalize hys : pre.map Prod.snd = ys at h1 h2 c8 hlb
    have HYS := Lib.hid hys
    clear hys
    have HS : Hid (∀ j u, [Value.slice A5 r5 c5][j]? = some u → (W.alloc (.cells #[.slice A5 r5 c5] 25)).cell? ((⟨W.heap.size, 0, none⟩ : Addr).add j) = some u) := Lib.hid (fun j u hu => by
      rw [Addr.add_lit, Nat.zero_add, (Bk.new W 25 #[.slice A5 r5 c5]).cell j]
      simpa using hu)
    obtain ⟨i0, hi, hz0, hz1, hz2⟩ := info_parts Try.rowInfo
    have HI := Lib.hid hi
    have HZ0 := Lib.hid hz0
    have HZ1 := Lib.hid hz1
    have HZ2 := Lib.hid hz2
    have HT := Lib.hid h2
    have HROW := Lib.hid h2.2.2
    have HBX := Lib.hid (show Boxed W w.heap.size 22 _ from h1)
    have HW := Lib.hid h3
    have HX1 := Lib.hid hx1
    have HX2 := Lib.hid hx2
    clear h1 h3 hx1 hx2 h2 hi hz0 hz1 hz2
    gi_wp2_with (gi_at_builtin; refine wpListIn_append_own _ rfl _ _ 22 rfl w.heap.size 25 i0 _ 1 24 Try.underlying22 HI.out HZ0.out HZ1.out HZ2.out rfl (by decide) _ _ _ rfl (HROW.out.alloc _) ⟨W.heap.size, 0, none⟩ 1 1 [.slice A5 r5 c5] rfl rfl HS.out (by simp [Value.oneCell']) (by unfold maxLen; omega) (by omega) (by simp; omega) ?_; intro v' w1 hown' hgrow _; obtain ⟨g', cap', rfl⟩ := ownsRow_succ hown'; obtain ⟨hv1, hv2, hr2, hk2, hb2⟩ := HBX.out.appended (by decide) HROW.out HW.out.size (Nat.le_refl _) hown' hgrow; have hc1 := hv1.cell; have hf1 := hv1.frozen; have HV2 := Lib.hid hv2; have HK2 := Lib.hid hk2; have HB2 := Lib.hid hb2; have HT2 := Lib.hid ((HT.out.push (x := (A5, r5, c5)) (by decide) ((Below.refl W.heap.size W).alloc (Nat.le_refl _) _) HX1.out (HX2.out.below (below1 W _)) hgrow hown').box hv1 (by decide) (by decide) (.slice (some ⟨g', 0, none⟩) (ys.length + 1) cap')); clear hown' hgrow hv1 hv2 hr2 hk2 hb2)
    refine ⟨HK2.out.from _, HB2.out, some ⟨g', 0, none⟩, cap', ?_, ?_, HW.out.trans HB2.out⟩
    · rw [List.map_append, HYS.out, List.length_append]
      exact HV2.out
    · rw [List.map_append, List.map_append, HYS.out]
      exact HT2.out
  case done =>
    rintro D xs W hD hxs ⟨A1, c1, h1, h2, h3⟩ hd
    have c0 := h1.one
    rw [hxs] at h2 c0
    have hle : (parse bs).length ≤ 255 := by
      obtain ⟨v, hv0, hv1⟩ := hdV_nat HO.out.2.2.1
      unfold parse
      rw [progsOf_len, hv0]
      omega
    have HXB := Lib.hid h1
    have HP := Lib.hid (h2.prgs (by omega))
    have HT := Lib.hid h2
    have HW := Lib.hid h3
    have HD := Lib.hid (And.intro hD hd)
    clear h1 h2 h3 hd
    by_cases hok : okL (parse bs)
    · have HOK := Lib.hid hok
      by_cases he : txtL (parse bs) = bs
      · have HRA := Lib.hid (readA_yes hok he)
        have HSB : Hid (sameB (txtL (parse bs)) bs = true) := Lib.hid (by unfold sameB; rw [he]; simp)
        clear he hok
        gi_wp2_with (first
          | (refine ⟨trivial, ?_⟩; gi_at_call 22; refine (callsIn_wide.2 (write_yes A1 _ c1 _ _ HP.out HOK.out)).mono ?_; rintro e w4 ⟨A4, c4, rfl, ho4, hb4⟩; have c9 := (HXB.out.below hb4 HXB.out.lt).one; have HO4 := Lib.hid ho4; have HB4 := Lib.hid hb4; clear ho4 hb4)
          | (refine ⟨trivial, ?_⟩; gi_at_call 39; refine (callsIn_wide.2 (equal_any A4 A _ n c4 c _ bs _ HO4.out.octs ((HO.out.below (HW.out.trans (HB4.out.mono HW.out.size))).octs (Nat.le_trans HW.out.size HB4.out.size) (by omega)))).mono ?_; rintro e w5 ⟨rfl, rfl⟩; rw [HSB.out]))
        have hd4 := (HB4.out.block D (Array.getElem?_eq_some_iff.1 HD.out.2).1).trans HD.out.2
        have HBW := Lib.hid (HW.out.trans (HB4.out.mono HW.out.size))
        have HTU := Lib.hid (Turn.put (B := w.heap.size) (.deferred none) hd4 (Nat.le_trans HB2.out.size HD.out.1) rfl)
        refine ⟨by simp, .inl ⟨_, _, rfl, run_takeDeferred hd4, ?_⟩⟩
        refine ⟨_, results_tmp2 rfl _ _ _, .inl ⟨_, A1, c1, HRA.out, rfl, ((HT.out.below HB4.out).turn HTU.out).prgs (by omega), HTU.out.below HBW.out (Nat.le_refl _) (Nat.le_refl _)⟩⟩
      · have HRA : Hid (readA bs = none) := Lib.hid (readA_no fun l hl e => he (by rw [← e, parse_txt hl]))
        have HSB : Hid (sameB (txtL (parse bs)) bs = false) := Lib.hid (by unfold sameB; simp [he])
        clear he hok
        gi_wp2_with (first
          | (refine ⟨trivial, ?_⟩; gi_at_call 22; refine (callsIn_wide.2 (write_yes A1 _ c1 _ _ HP.out HOK.out)).mono ?_; rintro e w4 ⟨A4, c4, rfl, ho4, hb4⟩; have HO4 := Lib.hid ho4; have HB4 := Lib.hid hb4; clear ho4 hb4)
          | (refine ⟨trivial, ?_⟩; gi_at_call 39; refine (callsIn_wide.2 (equal_any A4 A _ n c4 c _ bs _ HO4.out.octs ((HO.out.below (HW.out.trans (HB4.out.mono HW.out.size))).octs (Nat.le_trans HW.out.size HB4.out.size) (by omega)))).mono ?_; rintro e w5 ⟨rfl, rfl⟩; rw [HSB.out]))
        have hd4 := (HB4.out.block D (Array.getElem?_eq_some_iff.1 HD.out.2).1).trans HD.out.2
        have HBW := Lib.hid (HW.out.trans (HB4.out.mono HW.out.size))
        have HTU := Lib.hid (Turn.put (B := w.heap.size) (.deferred none) hd4 (Nat.le_trans HB2.out.size HD.out.1) rfl)
        refine ⟨by simp, .inl ⟨_, _, rfl, run_takeDeferred hd4, ?_⟩⟩
        refine ⟨_, results_tmp2 rfl _ _ _, .inr ⟨HRA.out, rfl, HTU.out.below HBW.out (Nat.le_refl _) (Nat.le_refl _)⟩⟩
    · have HNO := Lib.hid hok
      have HRA : Hid (readA bs = none) := Lib.hid (readA_no fun l hl e => hok (by rw [← e, parse_txt hl]; exact hl))
      clear hok
      gi_wp2_with (refine ⟨trivial, ?_⟩; gi_at_call 22; refine (callsIn_wide.2 (write_not A1 _ c1 _ _ HP.out HNO.out)).mono ?_; rintro e w4 ⟨rfl, hb4⟩; have HB4 := Lib.hid hb4; clear hb4)
      have hd4 := (HB4.out.block D (Array.getElem?_eq_some_iff.1 HD.out.2).1).trans HD.out.2
      have HBW := Lib.hid (HW.out.trans (HB4.out.mono HW.out.size))
      have HTU := Lib.hid (Turn.put (B := w.heap.size) (.deferred none) hd4 (Nat.le_trans HB2.out.size HD.out.1) rfl)
      refine ⟨trivial, ?_⟩
      gi_wp2
      refine ⟨by simp, .inl ⟨_, _, rfl, run_takeDeferred hd4, ?_⟩⟩
      refine ⟨_, results_tmp2 rfl _ _ _, .inr ⟨HRA.out, rfl, HTU.out.below HBW.out (Nat.le_refl _) (Nat.le_refl _)⟩⟩

end Go.Proofs.Ytcbgmhbmdklbfaa

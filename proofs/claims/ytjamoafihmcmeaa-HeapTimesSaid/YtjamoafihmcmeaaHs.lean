/-
  Layer 8, the program: a heap's timers in order: gathered out of an iterator, and sorted by the library.
-/
import Derived.Test.YtjamoafihmcmeaaHg
import Derived.Test.YtjamoafihmcmeaaHp
import Derived.Test.YtjamoafihmcmeaaRange
import Derived.Maps.AppendAt
import Derived.RangeFuncBox
import Derived.Shelf.Abstract
import Derived.Shelf.RegionOpen
import Derived.WalkKit
import Derived.OwnWalkIn
import Derived.TacticsInMore
import Derived.LoopNIn
import Derived.LoopIn
import Derived.RegionTactic
import Derived.BigQuiet
import Derived.Deep.QuietTactic
import Derived.Stop.RegionWithIn
namespace Go.Proofs.Ytjamoafihmcmeaa
open Go.RowKit Go.Shelf
attribute [local go_sem] Oper.semAt_some
theorem wide_depth : Fence.wide.depth.isSome = false := rfl
attribute [local go_sem] wide_depth

/-- A slice of timers in blocks below B reads as a list. -/
def TmB (B : Nat) (w : World) (A : Option Addr) (n c : Nat) (p : List Tm) : Prop :=
  p.length = n ∧ (n ≤ c ∧ c ≤ 9223372036854775807) ∧ (∀ x ∈ p, FitI x) ∧
    (0 < n → ∃ b o, A = some ⟨b, o, none⟩ ∧ b < B ∧ ∀ j, j < n →
      w.cell? ⟨b, o + j * 2, none⟩ = some (.int .i64 (jO p j)) ∧ w.cell? ⟨b, o + j * 2 + 1, none⟩ = some (.int .i64 (jA p j)))
theorem TmB.below {B : Nat} {w w' : World} {A : Option Addr} {n c : Nat} {p : List Tm} (h : TmB B w A n c p) (hb : Below B w w') : TmB B w' A n c p :=
  ⟨h.1, h.2.1, h.2.2.1, fun hn => by
    obtain ⟨b, o, e, hlt, hc⟩ := h.2.2.2 hn
    exact ⟨b, o, e, hlt, fun j hj => ⟨(hb.cell (p := ⟨b, o + j * 2, none⟩) hlt).trans (hc j hj).1, (hb.cell (p := ⟨b, o + j * 2 + 1, none⟩) hlt).trans (hc j hj).2⟩⟩⟩
theorem Tms.b {w : World} {A : Option Addr} {n c : Nat} {p : List Tm} (h : Tms w A n c p) : TmB w.heap.size w A n c p := h

def encT (x : Tm) : Array Value := #[.agg #[.int .i64 x.1, .int .i64 x.2]]
theorem values_any (A : Option Addr) (n c : Nat) (w : World) :
    Calls Try.prog 45 #[.slice A n c] w fun e w' => e = .returned (.func (.func 53) #[] #[.pointer (some ⟨w.heap.size, 0, none⟩)]) ∧ w' = w.alloc (.cells #[.slice A n c] 22) := by
  go_enter Try.func45, Try.ntmps45
  go_wp2
  go_ret
  exact ⟨rfl, rfl⟩

set_option maxRecDepth 100000 in
set_option maxHeartbeats 2000000 in
theorem vals_seq (m : Nat) (B g : Nat) (A : Option Addr) (n c : Nat) (p : List Tm) (w : World) (hg : Bk w g 22 #[.slice A n c]) (h : TmB B w A n c p) (hB : B ≤ w.heap.size) :
    SeqV m Try.prog 53 #[.pointer (some ⟨g, 0, none⟩)] encT (fun x _ => FitI x) (Below B) (fun xs _ => xs = p) n w := by
  intro l J W hW hJ hY h0
  have c0 := (hg.below hW hg.lt).one
  have HO := Lib.hid (h.below (hW.mono hB))
  have HL := Lib.hid h.1
  have HJ := Lib.hid hJ
  have HY := Lib.hid hY
  have hnc := h.2.1
  clear hg h hJ hY
  refine callsIn_of_wp Try.func53 rfl trivial ?_
  simp only [Try.ntmps53, List.size_toArray, List.length_cons, List.length_nil, Nat.reduceAdd, Nat.reduceSub, Array.replicate_succ, Array.replicate_zero, List.push_toArray, List.append_toArray, List.nil_append, List.cons_append]
  gi_wp2
  gi_loopw [7] (fun t wr => ∃ k : Nat, t = .int .i64 (k : Int) ∧ k ≤ n ∧ Hid (B ≤ wr.heap.size) ∧ Hid (TmB B wr A n c p) ∧ Hid (J (p.take k) wr)) (fun t _ => n - (intOf t).toNat)
  case atStart => exact ⟨0, rfl, by omega, Lib.hid (Nat.le_trans hB hW.size), HO, Lib.hid h0⟩
  case round =>
    obtain ⟨k, rfl, hk, HBW, HOC, HJS⟩ := hrel
    by_cases hkn : k < n
    · obtain ⟨b, o, rfl, hlt, hcell⟩ := HOC.out.2.2.2 (by omega)
      obtain ⟨d0, d1⟩ := hcell k hkn
      have hkl : k < p.length := by rw [HL.out]; exact hkn
      obtain ⟨⟨x1, x2⟩, hx⟩ : ∃ x, ith p k = x := ⟨_, rfl⟩
      unfold jO at d0
      unfold jA at d1
      rw [hx] at d0 d1
      have HFI : Hid (FitI (x1, x2)) := Lib.hid (by rw [← hx, ith_get hkl]; exact HOC.out.2.2.1 _ (List.getElem_mem hkl))
      have HT : Hid (p.take (k + 1) = p.take k ++ [(x1, x2)]) := Lib.hid (by rw [take_succ hkl, hx])
      have hbw : B ≤ wr.heap.size := HBW.out
      have hb1 := (Below.refl wr.heap.size wr).alloc (Nat.le_refl _) (.cells #[.int .i64 x1, .int .i64 x2] 24)
      have k1 := Bk.new wr 24 #[.int .i64 x1, .int .i64 x2]
      obtain ⟨fn, tmps, assign, body, hy, hR⟩ := HY.out (p.take k) (x1, x2) _ (HJ.out _ _ _ HJS.out hb1) HFI.out (by rw [List.length_take]; omega)
      have HO1 := Lib.hid (HOC.out.below (hb1.mono hbw))
      have HS1 := Lib.hid (Nat.le_trans hbw hb1.size)
      dsimp only [encT] at hy
      have e0 : _ = some (Value.int .i64 x1) := k1.cell 0
      have e1 : _ = some (Value.int .i64 x2) := k1.cell 1
      clear hx hcell k1 hb1
      gi_wp2_with ((refine hR.mono ?_; rintro e W3 ⟨rfl, hJ3, hk3⟩))
      have HO3 := Lib.hid (HO1.out.below hk3)
      have HS3 : Hid (B ≤ W3.heap.size) := Lib.hid (Nat.le_trans HS1.out hk3.size)
      have HJ4 : Hid (J (p.take (k + 1)) W3) := Lib.hid (by rw [HT.out]; exact hJ3)
      clear hk3 hJ3
      gi_wp2
      exact ⟨⟨k + 1, by go_num, by omega, HS3, HO3, HJ4⟩, by simp only [intOf]; omega⟩
    · have hkn : n = k := by omega
      subst hkn
      have HT : Hid (p.take n = p) := Lib.hid (by rw [← HL.out, List.take_length])
      gi_wp2
      go_end0
      exact ⟨⟨_, rfl⟩, _, HT.out, HJS.out⟩

theorem Bk.turn {B : Nat} {w w' : World} {g : Nat} {t : TypeId} {cs : Array Value} (h : Bk w g t cs) (ht : Turn B w w') : Bk w' g t cs := ht.same _ _ h (.inl rfl)
theorem row_turn {B : Nat} {w w' : World} {base : Nat} {E : TypeId} {sz n : Nat} {v : Value} {xs : List Value} (h : w.ownsRow base E sz v n xs) (ht : Turn B w w') : w'.ownsRow base E sz v n xs := by
  refine ⟨h.1, ?_⟩
  rcases h.2 with h2 | ⟨g, cap, cur, e, hb, hh, r⟩
  · exact .inl h2
  · exact .inr ⟨g, cap, cur, e, hb, ht.same _ _ hh (.inl rfl), r⟩
theorem OwnT.turn {E : TypeId} {B : Nat} {w w' : World} {base : Nat} {A : Option Addr} {c : Nat} {p : List Tm} (h : OwnT E w base A c p) (ht : Turn B w w') : OwnT E w' base A c p := ⟨h.1, h.2.1, row_turn h.2.2 ht⟩

/-- Between two rounds: the box holds a row of what came so far. -/
def CI (w : World) (pre : List Tm) (W : World) : Prop :=
  ∃ A c, Bk W w.heap.size 22 #[.slice A pre.length c] ∧ OwnT 24 W w.heap.size A c pre ∧ Below w.heap.size w W
/-- Behind the assignment: the loop variable lies in a box of its own. -/
def CA (w : World) (gf : Nat) (lb : Array Value) (x : Tm) (a' : Act) (W : World) : Prop :=
  ∃ Bx, FitI x ∧ w.heap.size < Bx ∧ Bk W Bx 24 #[.int .i64 x.1, .int .i64 x.2] ∧
    a' = { tmps := #[.slice none 0 0, .func (.func gf) #[] lb, .pointer (some ⟨w.heap.size, 0, none⟩), undef, .slice none 0 0, .pointer (some ⟨Bx, 0, none⟩), .func (.func gf) #[] lb, .agg #[.int .i64 x.1, .int .i64 x.2], undef, undef, undef, undef, undef], defers := [] }

set_option maxRecDepth 100000 in
set_option maxHeartbeats 2000000 in
theorem appendSeq_any (B gf N : Nat) (lb : Array Value) (p : List Tm) (w : World) (eg : ∀ args w, (callFunc gf args).run Try.prog w = .ok (.enter gf args) w) (hB : B ≤ w.heap.size) (hN : N ≤ 100000)
    (hseq : ∀ w1, Below w.heap.size w w1 → SeqV 4 Try.prog gf lb encT (fun x _ => FitI x) (Below B) (fun xs _ => xs = p) N w1) :
    Calls Try.prog 57 #[.slice none 0 0, .func (.func gf) #[] lb] w (NewT p w) := by
  refine (callsIn_wide (n := 5)).1 ?_
  refine callsIn_of_wp_marks Try.func57 rfl trivial ?_
  simp only [Try.ntmps57, List.size_toArray, List.length_cons, List.length_nil, Nat.reduceAdd, Nat.reduceSub, Array.replicate_succ, Array.replicate_zero, List.push_toArray, List.append_toArray, List.nil_append, List.cons_append]
  gi_wp2
  have hb0 : Below w.heap.size w (w.alloc (.cells #[.slice none 0 0] 22)) := (Below.refl _ w).alloc (Nat.le_refl _) _
  refine range_all rfl eg (hseq _ hb0) (fun _ => rfl) (CI w) (CA w gf lb) ?hI ?hS ?hA ?hK (fun h k => h.trans k) ?h0 ?round ?body ?done
  case hI =>
    rintro pre X Y ⟨A, c, h1, h2, h3⟩ ht
    exact ⟨A, c, h1.turn ht, h2.turn ht, ht.below h3 (by simp) (Nat.le_refl _)⟩
  case hS => intro s X Y h _; exact h
  case hA =>
    rintro x a' X Y ⟨Bx, hf, h1, h2, h3⟩ ht
    exact ⟨Bx, hf, h1, h2.turn ht, h3⟩
  case hK => intro X Y hs ht; simp at hs; exact ht.below (Below.refl _ _) (by simp; omega) (by omega)
  case h0 => exact ⟨none, 0, Bk.new _ _ _, OwnT.nil_ _ _ _, hb0⟩
  case round =>
    rintro l pre x W ⟨A, c, h1, h2, h3⟩ hv hlen
    have hs := h3.size
    have hlt := h1.lt
    have hb := (Below.refl W.heap.size W).alloc (Nat.le_refl _) (.cells #[.int .i64 x.1, .int .i64 x.2] 24)
    have H1 := Lib.hid (h1.alloc (.cells #[.int .i64 x.1, .int .i64 x.2] 24))
    have H2 := Lib.hid (h2.below hb)
    have H3 := Lib.hid (h3.alloc hs (.cells #[.int .i64 x.1, .int .i64 x.2] 24))
    have HK := Lib.hid ((Below.refl B W).alloc (by omega) (.cells #[.int .i64 x.1, .int .i64 x.2] 24))
    have HX := Lib.hid (Bk.new W 24 #[.int .i64 x.1, .int .i64 x.2])
    clear h1 h2 h3 hseq hb
    simp only [encT]
    gi_wp2
    exact ⟨(KeepsOthers.alloc _ _).from _, HK.out, ⟨A, c, H1.out, H2.out, H3.out⟩, W.heap.size, hv, hlt, HX.out, rfl⟩
  case body =>
    rintro l pre x a' W ⟨A, c, h1, h2, h3⟩ ⟨Bx, hfx, hx1, hx2, rfl⟩ hlen
    have hs := h3.size
    have hw := h3
    have c8 := h1.one
    have x0 : W.cell? ⟨Bx, 0, none⟩ = some (.int .i64 x.1) := (hx2.cell 0).trans rfl
    have x1 : W.cell? ⟨Bx, 1, none⟩ = some (.int .i64 x.2) := (hx2.cell 1).trans rfl
    obtain ⟨hl2, hf2, hrow⟩ := h2
    have hlb : pre.length + 1 ≤ 100000 := by omega
    have HS : Hid (∀ j u, (cells2 x)[j]? = some u → (W.alloc (.cells #[.int .i64 x.1, .int .i64 x.2] 24)).cell? ((⟨W.heap.size, 0, none⟩ : Addr).add j) = some u) := Lib.hid (fun j u hu => by
      rw [Addr.add_lit, Nat.zero_add, (Bk.new W 24 #[.int .i64 x.1, .int .i64 x.2]).cell j]
      simpa [cells2] using hu)
    have HFX : Hid (FitI x) := Lib.hid hfx
    obtain ⟨i0, hi, hz0, hz1, hz2⟩ := info_parts infoT
    have HI := Lib.hid hi
    have HZ0 := Lib.hid hz0
    have HZ1 := Lib.hid hz1
    have HZ2 := Lib.hid hz2
    have HROW := Lib.hid hrow
    have HBX := Lib.hid (show Boxed W w.heap.size 22 _ from h1)
    have HW := Lib.hid hw
    have HF2 := Lib.hid hf2
    clear h1 h3 hx2 hrow hi hz0 hz1 hz2 hw hf2 hfx hseq
    gi_wp2_with (gi_at_builtin; refine wpListIn_append_own _ rfl _ _ 22 rfl w.heap.size 24 i0 _ 2 16 Try.underlying22 HI.out HZ0.out HZ1.out HZ2.out rfl (by decide) _ _ _ rfl (HROW.out.alloc _) ⟨W.heap.size, 0, none⟩ 1 1 (cells2 x) rfl rfl HS.out (by simp [cells2, Value.oneCell']) (by unfold maxLen; omega) (by omega) (by simp; omega) ?_; intro v' w1 hown' hgrow _; obtain ⟨g', cap', rfl⟩ := ownsRow_succ hown'; obtain ⟨hv1, hv2, hr2, hk2, hb2⟩ := HBX.out.appended (by decide) HROW.out HW.out.size (Nat.le_refl _) hown' hgrow; have hc1 := hv1.cell; have hf1 := hv1.frozen; have HV2 := Lib.hid hv2; have HR2 := Lib.hid hr2; have HK2 := Lib.hid hk2; have HB2 := Lib.hid hb2; clear hown' hgrow hv1 hv2 hr2 hk2 hb2)
    exact ⟨HK2.out.from _, HB2.out.mono hB, _, cap', by simpa [Bk, Boxed] using HV2.out, ⟨by simp; omega, fun y hy => (List.mem_append.1 hy).elim (HF2.out y) (fun h => by rw [List.mem_singleton.1 h]; exact HFX.out), by rw [cellsP_app]; simpa [cellsP] using HR2.out⟩, HW.out.trans HB2.out⟩
  case done =>
    rintro D xs W hD rfl ⟨A, c, h1, h2, h3⟩ hd
    have hs := h3.size
    have c0 := h1.one
    have H2 := Lib.hid (h2.turn (Turn.put (B := w.heap.size) (.deferred none) hd (by simp at hD; omega) rfl))
    have H3 := Lib.hid ((Turn.put (B := w.heap.size) (.deferred none) hd (by simp at hD; omega) rfl).below h3 (Nat.le_refl _) (Nat.le_refl _))
    clear h1 h2 h3 hseq
    gi_wp2
    refine ⟨by simp, .inl ⟨_, _, rfl, run_takeDeferred hd, ?_⟩⟩
    exact ⟨_, results_tmp rfl _ _ _, A, c, rfl, H2.out, H3.out⟩

theorem collect_any (B gf N : Nat) (lb : Array Value) (p : List Tm) (w : World) (eg : ∀ args w, (callFunc gf args).run Try.prog w = .ok (.enter gf args) w) (hB : B ≤ w.heap.size) (hN : N ≤ 100000)
    (hseq : ∀ w1, Below w.heap.size w w1 → SeqV 4 Try.prog gf lb encT (fun x _ => FitI x) (Below B) (fun xs _ => xs = p) N w1) :
    Calls Try.prog 51 #[.func (.func gf) #[] lb] w (NewT p w) := by
  have HA := Lib.hid (appendSeq_any B gf N lb p w eg hB hN hseq)
  clear hseq eg
  go_enter Try.func51, Try.ntmps51
  go_wp2_with fail
  refine HA.out.mono ?_
  rintro e w1 ⟨A, c, rfl, h1, h2⟩
  have H1 := Lib.hid h1
  have H2 := Lib.hid h2
  clear h1 h2
  go_wp2
  go_ret
  exact ⟨A, c, rfl, H1.out, H2.out⟩
theorem eg_values (args : Array Value) (w : World) : (callFunc 53 args).run Try.prog w = .ok (.enter 53 args) w := by
  simp [go_sem]

end Go.Proofs.Ytjamoafihmcmeaa

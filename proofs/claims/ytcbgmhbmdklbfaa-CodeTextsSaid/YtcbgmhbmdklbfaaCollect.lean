/-
  Contracts of slices.AppendSeq (onto nil) and slices.Collect at instructions: what an iterator hands over, as a row of the call's own.
-/
import Derived.Test.YtcbgmhbmdklbfaaIter
import Derived.Test.YtcbgmhbmdklbfaaLUnits
import Derived.Maps.AppendAt
import Derived.RangeFuncBox
namespace Go.Proofs.Ytcbgmhbmdklbfaa
open Go.RowKit Go.Shelf
attribute [local go_sem] Oper.semAt_some wide_depth

theorem Bk.turn {B : Nat} {w w' : World} {g : Nat} {t : TypeId} {cs : Array Value} (h : Bk w g t cs) (ht : Turn B w w') : Bk w' g t cs := ht.same _ _ h (.inl rfl)
theorem row_turn {B : Nat} {w w' : World} {base : Nat} {E : TypeId} {sz n : Nat} {v : Value} {xs : List Value} (h : w.ownsRow base E sz v n xs) (ht : Turn B w w') : w'.ownsRow base E sz v n xs := by
  refine ⟨h.1, ?_⟩
  rcases h.2 with h2 | ⟨g, cap, cur, e, hb, hh, r⟩
  · exact .inl h2
  · exact .inr ⟨g, cap, cur, e, hb, ht.same _ _ hh (.inl rfl), r⟩
theorem OwnP.turn {E : TypeId} {B : Nat} {w w' : World} {base : Nat} {A : Option Addr} {c : Nat} {p : List I3} (h : OwnP E w base A c p) (ht : Turn B w w') : OwnP E w' base A c p := ⟨h.1, h.2.1, row_turn h.2.2 ht⟩

/-- Between two rounds: the box holds a row of what came so far. -/
def CI (w : World) (pre : List I3) (W : World) : Prop :=
  ∃ A c, Bk W w.heap.size 25 #[.slice A pre.length c] ∧ OwnP 42 W w.heap.size A c pre ∧ Below w.heap.size w W
/-- Behind the assignment: the loop variable lies in a box of its own. -/
def CA (w : World) (gf : Nat) (lb : Array Value) (x : I3) (a' : Act) (W : World) : Prop :=
  ∃ Bx, FitI x ∧ w.heap.size < Bx ∧ Bk W Bx 42 #[.int .i64 x.1, .int .i64 x.2.1, .int .i64 x.2.2] ∧
    a' = { tmps := #[.slice none 0 0, .func (.func gf) #[] lb, .pointer (some ⟨w.heap.size, 0, none⟩), undef, .slice none 0 0, .pointer (some ⟨Bx, 0, none⟩), .func (.func gf) #[] lb, .agg #[.int .i64 x.1, .int .i64 x.2.1, .int .i64 x.2.2], undef, undef, undef, undef, undef], defers := [] }

/-- A program is handed back, in memory of the call's own. -/
def NewP (p : List I3) (w : World) (e : Ending) (w' : World) : Prop :=
  ∃ A c, e = .returned (.slice A p.length c) ∧ OwnP 42 w' w.heap.size A c p ∧ Below w.heap.size w w'

set_option maxRecDepth 100000 in
set_option maxHeartbeats 2000000 in
theorem appendSeq_any (B gf N : Nat) (lb : Array Value) (p : List I3) (w : World) (eg : ∀ args w, (callFunc gf args).run Try.prog w = .ok (.enter gf args) w) (hB : B ≤ w.heap.size) (hN : N ≤ 100000)
    (hseq : ∀ w1, Below w.heap.size w w1 → SeqV 4 Try.prog gf lb encI (fun x _ => FitI x) (Below B) (fun xs _ => xs = p) N w1) :
    Calls Try.prog 49 #[.slice none 0 0, .func (.func gf) #[] lb] w (NewP p w) := by
  refine (callsIn_wide (n := 5)).1 ?_
  refine callsIn_of_wp_marks Try.func49 rfl trivial ?_
  simp only [Try.ntmps49, List.size_toArray, List.length_cons, List.length_nil, Nat.reduceAdd, Nat.reduceSub, Array.replicate_succ, Array.replicate_zero, List.push_toArray, List.append_toArray, List.nil_append, List.cons_append]
  gi_wp2
  have hb0 : Below w.heap.size w (w.alloc (.cells #[.slice none 0 0] 25)) := (Below.refl _ w).alloc (Nat.le_refl _) _
  refine range_all rfl eg (hseq _ hb0) (fun _ => rfl) (CI w) (CA w gf lb) ?hI ?hS ?hA ?hK (fun h k => h.trans k) ?h0 ?round ?body ?done
  case hI =>
    rintro pre X Y ⟨A, c, h1, h2, h3⟩ ht
    exact ⟨A, c, h1.turn ht, h2.turn ht, ht.below h3 (by simp) (Nat.le_refl _)⟩
  case hS => intro s X Y h _; exact h
  case hA =>
    rintro x a' X Y ⟨Bx, hf, h1, h2, h3⟩ ht
    exact ⟨Bx, hf, h1, h2.turn ht, h3⟩
  case hK => intro X Y hs ht; simp at hs; exact ht.below (Below.refl _ _) (by simp; omega) (by omega)
  case h0 => exact ⟨none, 0, Bk.new _ _ _, OwnP.nil_ _ _ _, hb0⟩
  case round =>
    rintro l pre x W ⟨A, c, h1, h2, h3⟩ hv hlen
    have hs := h3.size
    have hlt := h1.lt
    have H1 := Lib.hid (h1.alloc (.cells #[.int .i64 x.1, .int .i64 x.2.1, .int .i64 x.2.2] 42))
    have H2 := Lib.hid (h2.below (below1 W (.cells #[.int .i64 x.1, .int .i64 x.2.1, .int .i64 x.2.2] 42)))
    have H3 := Lib.hid (h3.alloc hs (.cells #[.int .i64 x.1, .int .i64 x.2.1, .int .i64 x.2.2] 42))
    have HK := Lib.hid ((Below.refl B W).alloc (by omega) (.cells #[.int .i64 x.1, .int .i64 x.2.1, .int .i64 x.2.2] 42))
    have HX := Lib.hid (Bk.new W 42 #[.int .i64 x.1, .int .i64 x.2.1, .int .i64 x.2.2])
    clear h1 h2 h3 hseq
    simp only [encI]
    gi_wp2
    exact ⟨(KeepsOthers.alloc _ _).from _, HK.out, ⟨A, c, H1.out, H2.out, H3.out⟩, W.heap.size, hv, hlt, HX.out, rfl⟩
  case body =>
    rintro l pre x a' W ⟨A, c, h1, h2, h3⟩ ⟨Bx, hfx, hx1, hx2, rfl⟩ hlen
    have hs := h3.size
    have hw := h3
    have c8 := h1.one
    have x0 : W.cell? ⟨Bx, 0, none⟩ = some (.int .i64 x.1) := (hx2.cell 0).trans rfl
    have x1 : W.cell? ⟨Bx, 1, none⟩ = some (.int .i64 x.2.1) := (hx2.cell 1).trans rfl
    have x2 : W.cell? ⟨Bx, 2, none⟩ = some (.int .i64 x.2.2) := (hx2.cell 2).trans rfl
    obtain ⟨hl2, hf2, hrow⟩ := h2
    have hlb : pre.length + 1 ≤ 100000 := by omega
    have HS : Hid (∀ j u, (cells3 x)[j]? = some u → (W.alloc (.cells #[.int .i64 x.1, .int .i64 x.2.1, .int .i64 x.2.2] 42)).cell? ((⟨W.heap.size, 0, none⟩ : Addr).add j) = some u) := Lib.hid (fun j u hu => by
      rw [Addr.add_lit, Nat.zero_add, (Bk.new W 42 #[.int .i64 x.1, .int .i64 x.2.1, .int .i64 x.2.2]).cell j]
      simpa [cells3] using hu)
    have HFX : Hid (FitI x) := Lib.hid hfx
    obtain ⟨i0, hi, hz0, hz1, hz2⟩ := info_parts Try.instrInfo
    have HI := Lib.hid hi
    have HZ0 := Lib.hid hz0
    have HZ1 := Lib.hid hz1
    have HZ2 := Lib.hid hz2
    have HROW := Lib.hid hrow
    have HBX := Lib.hid (show Boxed W w.heap.size 25 _ from h1)
    have HW := Lib.hid hw
    have HF2 := Lib.hid hf2
    clear h1 h3 hx2 hrow hi hz0 hz1 hz2 hw hf2 hfx hseq
    gi_wp2_with (gi_at_builtin; refine wpListIn_append_own _ rfl _ _ 25 rfl w.heap.size 42 i0 _ 3 24 Try.underlying25 HI.out HZ0.out HZ1.out HZ2.out rfl (by decide) _ _ _ rfl (HROW.out.alloc _) ⟨W.heap.size, 0, none⟩ 1 1 (cells3 x) rfl rfl HS.out (by simp [cells3, Value.oneCell']) (by unfold maxLen; omega) (by omega) (by simp; omega) ?_; intro v' w1 hown' hgrow _; obtain ⟨g', cap', rfl⟩ := ownsRow_succ hown'; obtain ⟨hv1, hv2, hr2, hk2, hb2⟩ := HBX.out.appended (by decide) HROW.out HW.out.size (Nat.le_refl _) hown' hgrow; have hc1 := hv1.cell; have hf1 := hv1.frozen; have HV2 := Lib.hid hv2; have HR2 := Lib.hid hr2; have HK2 := Lib.hid hk2; have HB2 := Lib.hid hb2; clear hown' hgrow hv1 hv2 hr2 hk2 hb2)
    exact ⟨HK2.out.from _, HB2.out.mono hB, _, cap', by simpa [Bk, Boxed] using HV2.out, ⟨by simp; omega, fun y hy => (List.mem_append.1 hy).elim (HF2.out y) (fun h => by rw [List.mem_singleton.1 h]; exact HFX.out), by rw [cellsP_app]; simpa [cellsP] using HR2.out⟩, HW.out.trans HB2.out⟩
  case done =>
    rintro D xs W hD rfl ⟨A, c, h1, h2, h3⟩ hd
    have hs := h3.size
    have c0 := h1.one
    have H2 := Lib.hid (h2.turn (Turn.put (B := w.heap.size) (.deferred none) hd (by simp at hD; omega) rfl))
    have H3 := Lib.hid ((Turn.put (B := w.heap.size) (.deferred none) hd (by simp at hD; omega) rfl).below h3 (Nat.le_refl _) (Nat.le_refl _))
    clear h1 h2 h3 hseq
    gi_wp2
    refine ⟨by simp, .inl ⟨_, _, rfl, run_takeDeferred hd, ?_⟩⟩
    exact ⟨_, results_tmp rfl _ _ _, A, c, rfl, H2.out, H3.out⟩

end Go.Proofs.Ytcbgmhbmdklbfaa

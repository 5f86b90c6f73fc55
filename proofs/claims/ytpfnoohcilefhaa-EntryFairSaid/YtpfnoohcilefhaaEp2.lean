/-
  Layer 19, the program: the parts of a text, its entries, one by one.
-/
import Derived.Test.YtpfnoohcilefhaaEkr
import Derived.Test.YtpfnoohcilefhaaEst
import Derived.Test.YtpfnoohcilefhaaEnc
import Derived.Test.YtpfnoohcilefhaaKit
import Derived.RangeFuncBox
import Derived.Shelf.Abstract
import Derived.Shelf.RegionOpen
import Derived.WalkKit
import Derived.OwnWalkIn
import Derived.TacticsInMore
import Derived.LoopNIn
import Derived.LoopIn
import Derived.RegionTactic
import Derived.BigQuiet
import Derived.Deep.QuietTactic
import Derived.Stop.RegionWithIn
namespace Go.Proofs.Ytpfnoohcilefhaa
open Go.RowKit Go.Shelf
theorem wide_depthE : Fence.wide.depth.isSome = false := rfl
attribute [local go_sem] Oper.semAt_some wide_depthE

theorem Keep.cell {S : Nat → Prop} {X Y : World} (h : Keep S X Y) {p : Addr} {v : Value} (hc : X.cell? p = some v) (hs : ¬ S p.block) : Y.cell? p = some v :=
  (World.cell?_of_block (h.same p.block (World.block_lt_of_cell? X p hc) hs)).trans hc

theorem chunk_en (A : Option Addr) (n c : Nat) (w : World) :
    Calls Try.prog 59 #[.slice A n c, .int .i64 3] w fun e w' => e = .returned (.func (.func 71) #[] #[.pointer (some ⟨w.heap.size, 0, none⟩), .pointer (some ⟨w.heap.size + 1, 0, none⟩)]) ∧ w' = (w.alloc (.cells #[.slice A n c] 32)).alloc (.cells #[.int .i64 3] 3) := by
  go_enter Try.func59, Try.ntmps59
  go_wp2
  go_ret
  exact ⟨by simp, rfl⟩

def encC (b o : Nat) (k : Nat) : Array Value := #[.slice (some ⟨b, o + 3 * k, none⟩) 3 3]

set_option maxRecDepth 100000 in
set_option maxHeartbeats 2000000 in
theorem chunk1_seq (m : Nat) (S : Nat → Prop) (A : Option Addr) (b o n c N g1 g2 : Nat) (w : World) (hk1 : Bk w g1 32 #[.slice A n c]) (hk2 : Bk w g2 3 #[.int .i64 3]) (hs1 : ¬ S g1) (hs2 : ¬ S g2)
    (hA : 0 < N → A = some ⟨b, o, none⟩) (hn : n = 3 * N) (hc : n ≤ c ∧ c ≤ 9223372036854775807) (hn9 : n ≤ 196608) :
    SeqK m Try.prog 71 #[.pointer (some ⟨g1, 0, none⟩), .pointer (some ⟨g2, 0, none⟩)] (encC b o) S N w := by
  intro l J Z W hW hSW hJs hJ hZ hZs hY h0
  have K1 := Lib.hid (hk1.below hW hk1.lt)
  have K2 := Lib.hid (hk2.below hW hk2.lt)
  have HJ := Lib.hid hJ
  have HJS := Lib.hid hJs
  have HY := Lib.hid hY
  have HS1 := Lib.hid hs1
  have HS2 := Lib.hid hs2
  have HA := Lib.hid hA
  clear hk1 hk2 hJ hY hs1 hs2 hA hW hSW hJs hZ hZs
  refine callsIn_of_wp Try.func71 rfl trivial ?_
  simp only [Try.ntmps71, List.size_toArray, List.length_cons, List.length_nil, Nat.reduceAdd, Nat.reduceSub, Array.replicate_succ, Array.replicate_zero, List.push_toArray, List.append_toArray, List.nil_append, List.cons_append]
  gi_wp2
  gi_loopw [4] (fun t wr => ∃ k : Nat, t = .int .i64 (3 * (k : Int)) ∧ k ≤ N ∧ Hid (Bk wr g1 32 #[.slice A n c]) ∧ Hid (Bk wr g2 3 #[.int .i64 3]) ∧ Hid (J k wr)) (fun t _ => n - (intOf t).toNat)
  case atStart => exact ⟨0, rfl, by omega, K1, K2, Lib.hid h0⟩
  case round =>
    rename World => wr
    clear K1 K2
    obtain ⟨k, rfl, hk, K1, K2, HJK⟩ := hrel
    have c1 := K1.out.one
    have c2 := K2.out.one
    by_cases hkn : k < N
    · obtain rfl := HA.out (by omega)
      have hlo : 3 * k < n := by omega
      have hlc : 3 * k < c := by omega
      obtain ⟨fn, tmps, assign, body, hy, hR⟩ := HY.out k wr.drew (HJ.out _ _ _ HJK.out (Below.refl _ _).drew) hkn
      dsimp only [encC] at hy
      gi_wp2
      gi_region
      rw [show min (3 : Int) ((3 * N - 3 * k : Nat) : Int) = 3 from by omega]
      gi_wp2_with ((refine hR.mono ?_))
      rintro e W3 (⟨rfl, hJ3, hk3⟩ | ⟨rfl, hz3, hk3⟩)
      · have K13 := Lib.hid (hk3.bk K1.out.drew HS1.out)
        have K23 := Lib.hid (hk3.bk K2.out.drew HS2.out)
        have HJ3 := Lib.hid hJ3
        have d2 := K23.out.one
        clear hk3 hJ3 hR hy
        gi_wp2
        go_roundw
        case rel => exact ⟨k + 1, by go_num, by omega, K13, K23, HJ3⟩
        case measure => simp [intOf]; omega
      · have HZ3 := Lib.hid hz3
        clear hk3 hz3 hR hy
        gi_wp2
        refine bodyPost_ret (results_none rfl _ _ _) rfl ?_
        exact ⟨⟨_, rfl⟩, .inr HZ3.out⟩
    · obtain rfl : k = N := by omega
      gi_wp2
      go_end0
      exact ⟨⟨_, rfl⟩, .inl HJK.out⟩

theorem entries_en (A : Option Addr) (n c : Nat) (w : World) :
    Calls Try.prog 37 #[.slice A n c] w fun e w' => e = .returned (.func (.func 58) #[] #[.pointer (some ⟨w.heap.size, 0, none⟩)]) ∧ w' = w.alloc (.cells #[.slice A n c] 32) := by
  go_enter Try.func37, Try.ntmps37
  go_wp2
  go_ret
  exact ⟨rfl, rfl⟩

theorem eg_chunk (args : Array Value) (w : World) : (callFunc 71 args).run Try.prog w = .ok (.enter 71 args) w := by
  simp [go_sem]
theorem eg_entries (args : Array Value) (w : World) : (callFunc 58 args).run Try.prog w = .ok (.enter 58 args) w := by
  simp [go_sem]

def encE (bs : List Int) (k : Nat) : Array Value := #[.agg #[.int .i64 (nth bs (3 * k)), .int .i64 (nth bs (3 * k + 1)), .int .i64 (nth bs (3 * k + 2))]]

/-- The octets lie in a block that is left alone. -/
def OctL (S : Nat → Prop) (b o n : Nat) (bs : List Int) (w : World) : Prop := ¬ S b ∧ b < w.heap.size ∧ ∀ j, j < n → w.cell? ⟨b, o + j, none⟩ = some (.int .u8 (nth bs j))
theorem OctL.keep {S : Nat → Prop} {b o n : Nat} {bs : List Int} {X Y : World} (h : OctL S b o n bs X) (hk : Keep S X Y) : OctL S b o n bs Y :=
  ⟨h.1, Nat.lt_of_lt_of_le h.2.1 hk.size, fun j hj => hk.cell (h.2.2 j hj) h.1⟩
theorem OctL.below {S : Nat → Prop} {b o n : Nat} {bs : List Int} {X Y : World} {B : Nat} (h : OctL S b o n bs X) (hk : Below B X Y) (hB : b < B) : OctL S b o n bs Y :=
  ⟨h.1, Nat.lt_of_lt_of_le h.2.1 hk.size, fun j hj => (hk.cell (p := ⟨b, o + j, none⟩) hB).trans (h.2.2 j hj)⟩

/-- Between two rounds. -/
def EI (J : Nat → World → Prop) (S : Nat → Prop) (l W0 Wr b o n N : Nat) (bs : List Int) (k : Nat) (X : World) : Prop :=
  J k X ∧ Bk X W0 67 #[.func (.yield l) #[] #[]] ∧ (0 < N → OctL S b o n bs X) ∧ Wr ≤ X.heap.size

set_option maxRecDepth 100000 in
set_option maxHeartbeats 4000000 in
theorem entries1_seq (m : Nat) (S : Nat → Prop) (A : Option Addr) (b o n c N g : Nat) (bs : List Int) (w : World) (hg : Bk w g 32 #[.slice A n c])
    (hA : 0 < N → A = some ⟨b, o, none⟩ ∧ OctL S b o n bs w) (ho : ∀ j, Oct (nth bs j)) (hn : n = 3 * N) (hc : n ≤ c ∧ c ≤ 9223372036854775807) (hn9 : n ≤ 196608) :
    SeqK m Try.prog 58 #[.pointer (some ⟨g, 0, none⟩)] (encE bs) S N w := by
  intro l J Z W hW hSW hJs hJ hZ hZs hY h0
  have KG := Lib.hid (hg.below hW hg.lt)
  have HA := Lib.hid (fun q : 0 < N => (hA q).1)
  have HO := Lib.hid (fun q : 0 < N => (hA q).2.below hW (hA q).2.2.1)
  have HJ := Lib.hid hJ
  have HJS := Lib.hid hJs
  have HZ := Lib.hid hZ
  have HZS := Lib.hid hZs
  have HY := Lib.hid hY
  have HSW := Lib.hid hSW
  have HOC := Lib.hid ho
  have H0 := Lib.hid h0
  have c0 := KG.out.one
  have HN := Lib.hid hn
  clear hg hA hJ hY hW hSW hJs hZ hZs ho h0 hn
  refine callsIn_of_wp_marks Try.func58 rfl trivial ?_
  simp only [Try.ntmps58, List.size_toArray, List.length_cons, List.length_nil, Nat.reduceAdd, Nat.reduceSub, Array.replicate_succ, Array.replicate_zero, List.push_toArray, List.append_toArray, List.nil_append, List.cons_append]
  have lg := KG.out.lt
  gi_wp2
  refine ⟨trivial, ?_⟩
  refine (callsIn_wide.2 (chunk_en A n c _)).mono ?_
  rintro e w2 ⟨rfl, rfl⟩
  have k1 := ((Bk.new W 67 #[.func (.yield l) #[] #[]]).alloc (.cells #[.slice A n c] 32)).alloc (.cells #[.int .i64 3] 3)
  have k2 := (Bk.new (W.alloc (.cells #[.func (.yield l) #[] #[]] 67)) 32 #[.slice A n c]).alloc (.cells #[.int .i64 3] 3)
  have k3 := Bk.new ((W.alloc (.cells #[.func (.yield l) #[] #[]] 67)).alloc (.cells #[.slice A n c] 32)) 3 #[.int .i64 3]
  have bb : Below W.heap.size W (((W.alloc (.cells #[.func (.yield l) #[] #[]] 67)).alloc (.cells #[.slice A n c] 32)).alloc (.cells #[.int .i64 3] 3)) := (((Below.refl _ W).alloc (Nat.le_refl _) _).alloc (by simp) _).alloc (by simp; omega) _
  have sz : (((W.alloc (.cells #[.func (.yield l) #[] #[]] 67)).alloc (.cells #[.slice A n c] 32)).alloc (.cells #[.int .i64 3] 3)).heap.size = W.heap.size + 3 := by simp
  simp only [World.size_alloc] at k2 k3 ⊢
  obtain ⟨V, hV⟩ : ∃ V, ((W.alloc (.cells #[.func (.yield l) #[] #[]] 67)).alloc (.cells #[.slice A n c] 32)).alloc (.cells #[.int .i64 3] 3) = V := ⟨_, rfl⟩
  rw [hV] at k1 k2 k3 bb sz ⊢
  clear hV c0
  have K1 := Lib.hid k1
  have K2 := Lib.hid k2
  have K3 := Lib.hid k3
  have BB := Lib.hid bb
  clear k1 k2 k3 bb
  gi_wp2
  refine range_k rfl eg_chunk (S := S) (fun k hk => by have := HSW.out k hk; omega) (chunk1_seq _ (fun k => S k ∨ k = V.heap.size ∨ k = V.heap.size + 1) A b o n c N (W.heap.size + 1) (W.heap.size + 1 + 1) V K2.out K3.out (fun q => by rcases q with q | q | q; have := HSW.out _ q; omega; omega; omega) (fun q => by rcases q with q | q | q; have := HSW.out _ q; omega; omega; omega) HA.out HN.out hc hn9) (fun _ => rfl)
    (EI J S l W.heap.size V.heap.size b o n N bs) (fun cd X => cd = .ret ∧ Z X) (fun k a' X => a' = { tmps := #[.func (.yield l) #[] #[], .pointer (some ⟨g, 0, none⟩), .pointer (some ⟨W.heap.size, 0, none⟩), .slice (some ⟨b, o + 3 * k, none⟩) 3 3, .slice A n c, .func (.func 71) #[] #[.pointer (some ⟨W.heap.size + 1, 0, none⟩), .pointer (some ⟨W.heap.size + 1 + 1, 0, none⟩)], .slice (some ⟨b, o + 3 * k, none⟩) 3 3, undef, undef, undef, undef, undef, undef, undef, undef, undef, undef, undef, undef, undef, undef, undef, undef], defers := [] }) ?hI ?hIx ?hA ?h0 ?round ?body ?done ?stop
  case hI =>
    rintro k X Y ⟨h1, h2, h3, h4⟩ hb
    exact ⟨HJ.out _ _ _ h1 (hb.mono (by omega)), h2.below hb (by omega), fun q => (h3 q).below hb (by have := (HO.out q).2.1; omega), Nat.le_trans h4 hb.size⟩
  case hIx =>
    rintro cd X Y ⟨h1, h2⟩ hb
    exact ⟨h1, HZ.out _ _ h2 (hb.mono (by omega))⟩
  case hA => intro k a' X Y h _; exact h
  case h0 => exact ⟨HJ.out _ _ _ H0.out BB.out, K1.out, fun q => (HO.out q).below BB.out (HO.out q).2.1, Nat.le_refl _⟩
  case round =>
    intro l' k X hi hk hz
    have HI := Lib.hid hi
    clear hi
    simp only [encC]
    gi_wp2
    exact ⟨Keep.refl _ _, HI.out, trivial⟩
  case body =>
    rintro l' k a' X ⟨h1, h2, h3, h4⟩ hk hz rfl
    have hpos : 0 < N := by omega
    have h3' := h3 hpos
    have HL := Lib.hid h3'
    have y0 := h2.one
    have d0 := h3'.2.2 (3 * k) (by have := HN.out; omega)
    have d1 := h3'.2.2 (3 * k + 1) (by have := HN.out; omega)
    have d2 := h3'.2.2 (3 * k + 2) (by have := HN.out; omega)
    rw [← Nat.add_assoc] at d1 d2
    obtain ⟨fn, tmps, assign, body, hy, hR⟩ := HY.out k X.drew (HJ.out _ _ _ h1 ((Below.refl _ _).drew)) hk
    dsimp only [encE] at hy
    have o0 := HOC.out (3 * k)
    have o1 := HOC.out (3 * k + 1)
    have o2 := HOC.out (3 * k + 2)
    unfold Oct at o0 o1 o2
    generalize nth bs (3 * k) = v0 at d0 o0 hy
    generalize nth bs (3 * k + 1) = v1 at d1 o1 hy
    generalize nth bs (3 * k + 2) = v2 at d2 o2 hy
    have HB2 := Lib.hid h2
    have HZ4 := Lib.hid h4
    have hw0 : IntKind.i64.wrap v0 = v0 := by rw [IntKind.wrap_i64]; omega
    have hw1 : IntKind.i64.wrap v1 = v1 := by rw [IntKind.wrap_i64]; omega
    have hw2 : IntKind.i64.wrap v2 = v2 := by rw [IntKind.wrap_i64]; omega
    clear h1 h2 h3 h3' h4 o0 o1 o2
    -- SETTLE
    gi_wp2
    refine wpIn_region_any (by kernel_rfl) ?_
    refine settle (m := 14) (fuel := 2) (last := #[true, true, true, true, true, true, true, true, true, true, true, true, true, true, false, false]) (b := { tmps := #[.func (.yield l) #[] #[], .pointer (some ⟨g, 0, none⟩), .pointer (some ⟨W.heap.size, 0, none⟩), .slice (some ⟨b, o + 3 * k, none⟩) 3 3, .slice A n c, .func (.func 71) #[] #[.pointer (some ⟨W.heap.size + 1, 0, none⟩), .pointer (some ⟨W.heap.size + 1 + 1, 0, none⟩)], .slice (some ⟨b, o + 3 * k, none⟩) 3 3, .func (.yield l) #[] #[], .slice (some ⟨b, o + 3 * k, none⟩) 3 3, .pointer (some ⟨b, o + 3 * k, none⟩), .int .u8 v0, .int .i64 v0, .slice (some ⟨b, o + 3 * k, none⟩) 3 3, .pointer (some ⟨b, o + 3 * k + 1, none⟩), .int .u8 v1, .int .i64 v1, .slice (some ⟨b, o + 3 * k, none⟩) 3 3, .pointer (some ⟨b, o + 3 * k + 2, none⟩), .int .u8 v2, .int .i64 v2, .agg #[.int .i64 v0, .int .i64 v1, .int .i64 v2], undef, undef], defers := [] }) (by decide) ?st ?late ?last ?base 14 _ _ rfl (by decide) closed_rep (fun k _ => rep_getD _ k) ?agree
    case st =>
      intro i hi
      match i, hi with
      | 0, _ => exact Settled.of (by kernel_rfl) rfl rfl ⟨_, rfl, by go_simp⟩ rfl
      | 1, _ => exact Settled.of (by kernel_rfl) rfl rfl ⟨_, rfl, by go_simp⟩ rfl
      | 2, _ => exact Settled.of (by kernel_rfl) rfl rfl ⟨_, rfl, by go_simp⟩ rfl
      | 3, _ => exact Settled.of (by kernel_rfl) rfl rfl ⟨_, rfl, by go_simp⟩ rfl
      | 4, _ => exact Settled.of (by kernel_rfl) rfl rfl ⟨_, rfl, by go_simp⟩ rfl
      | 5, _ => exact Settled.of (by kernel_rfl) rfl rfl ⟨_, rfl, by go_simp⟩ rfl
      | 6, _ => exact Settled.of (by kernel_rfl) rfl rfl ⟨_, rfl, by go_simp⟩ rfl
      | 7, _ => exact Settled.of (by kernel_rfl) rfl rfl ⟨_, rfl, by go_simp⟩ rfl
      | 8, _ => exact Settled.of (by kernel_rfl) rfl rfl ⟨_, rfl, by go_simp⟩ rfl
      | 9, _ => exact Settled.of (by kernel_rfl) rfl rfl ⟨_, rfl, by go_simp⟩ rfl
      | 10, _ => exact Settled.of (by kernel_rfl) rfl rfl ⟨_, rfl, by go_simp⟩ rfl
      | 11, _ => exact Settled.of (by kernel_rfl) rfl rfl ⟨_, rfl, by go_simp⟩ rfl
      | 12, _ => exact Settled.of (by kernel_rfl) rfl rfl ⟨_, rfl, by go_simp⟩ rfl
      | 13, _ => exact Settled.of (by kernel_rfl) rfl rfl ⟨_, rfl, by go_simp⟩ rfl
    case late =>
      intro i listed hm hc hk hi j hj
      obtain ⟨_, o, ho, hall⟩ := mem_ready.1 hi
      match i, hm, ho, hall with
      | 14, _, rfl, hall =>
        have l0 := hall ⟨0, .data⟩ (by simp) rfl
        have l13 := hall ⟨13, .data⟩ (by simp) rfl
        have l4 := hc.step (i := 13) rfl l13 (e := ⟨4, .data⟩) (by simp) rfl
        have l8 := hc.step (i := 13) rfl l13 (e := ⟨8, .data⟩) (by simp) rfl
        have l12 := hc.step (i := 13) rfl l13 (e := ⟨12, .data⟩) (by simp) rfl
        have l3 := hc.step (i := 4) rfl l4 (e := ⟨3, .data⟩) (by simp) rfl
        have l2 := hc.step (i := 3) rfl l3 (e := ⟨2, .data⟩) (by simp) rfl
        have l1 := hc.step (i := 2) rfl l2 (e := ⟨1, .data⟩) (by simp) rfl
        have l7 := hc.step (i := 8) rfl l8 (e := ⟨7, .data⟩) (by simp) rfl
        have l6 := hc.step (i := 7) rfl l7 (e := ⟨6, .data⟩) (by simp) rfl
        have l5 := hc.step (i := 6) rfl l6 (e := ⟨5, .data⟩) (by simp) rfl
        have l11 := hc.step (i := 12) rfl l12 (e := ⟨11, .data⟩) (by simp) rfl
        have l10 := hc.step (i := 11) rfl l11 (e := ⟨10, .data⟩) (by simp) rfl
        have l9 := hc.step (i := 10) rfl l10 (e := ⟨9, .data⟩) (by simp) rfl
        match j, hj with
        | 0, _ => exact l0
        | 1, _ => exact l1
        | 2, _ => exact l2
        | 3, _ => exact l3
        | 4, _ => exact l4
        | 5, _ => exact l5
        | 6, _ => exact l6
        | 7, _ => exact l7
        | 8, _ => exact l8
        | 9, _ => exact l9
        | 10, _ => exact l10
        | 11, _ => exact l11
        | 12, _ => exact l12
        | 13, _ => exact l13
      | 15, _, rfl, hall =>
        have l14 := hall ⟨14, .data⟩ (by simp) rfl
        have := hk 14 (by omega)
        dsimp only at l14
        rw [this] at l14
        cases l14
    case last =>
      refine ⟨rfl, fun j hj => ?_, fun k hk => ?_⟩
      · match j, hj with
        | 0, _ => rfl
        | 1, _ => rfl
        | 2, _ => rfl
        | 3, _ => rfl
        | 4, _ => rfl
        | 5, _ => rfl
        | 6, _ => rfl
        | 7, _ => rfl
        | 8, _ => rfl
        | 9, _ => rfl
        | 10, _ => rfl
        | 11, _ => rfl
        | 12, _ => rfl
        | 13, _ => rfl
      · match k, hk with
        | 14, _ => rfl
        | 15, _ => rfl
        | q + 16, _ => rfl
    case agree =>
      refine ⟨rfl, rfl, fun t => ?_⟩
      match t with
      | 0 => exact .inl rfl
      | 1 => exact .inl rfl
      | 2 => exact .inl rfl
      | 3 => exact .inl rfl
      | 4 => exact .inl rfl
      | 5 => exact .inl rfl
      | 6 => exact .inl rfl
      | 7 => exact .inr ⟨0, _, by omega, rfl, rfl, rfl⟩
      | 8 => exact .inr ⟨1, _, by omega, rfl, rfl, rfl⟩
      | 9 => exact .inr ⟨2, _, by omega, rfl, rfl, rfl⟩
      | 10 => exact .inr ⟨3, _, by omega, rfl, rfl, rfl⟩
      | 11 => exact .inr ⟨4, _, by omega, rfl, rfl, rfl⟩
      | 12 => exact .inr ⟨5, _, by omega, rfl, rfl, rfl⟩
      | 13 => exact .inr ⟨6, _, by omega, rfl, rfl, rfl⟩
      | 14 => exact .inr ⟨7, _, by omega, rfl, rfl, rfl⟩
      | 15 => exact .inr ⟨8, _, by omega, rfl, rfl, rfl⟩
      | 16 => exact .inr ⟨9, _, by omega, rfl, rfl, rfl⟩
      | 17 => exact .inr ⟨10, _, by omega, rfl, rfl, rfl⟩
      | 18 => exact .inr ⟨11, _, by omega, rfl, rfl, rfl⟩
      | 19 => exact .inr ⟨12, _, by omega, rfl, rfl, rfl⟩
      | 20 => exact .inr ⟨13, _, by omega, rfl, rfl, rfl⟩
      | 21 => exact .inl rfl
      | 22 => exact .inl rfl
      | t + 23 => exact .inl rfl
    case base =>
      have hsem : ∀ (o : Oper) (ρ : Operand → Value), o.op = Op.call { callee := Callee.value (Operand.tmp 7), args := #[Operand.tmp 20], argTypes := #[45] } → ρ (.tmp 7) = .func (.yield l) #[] #[] → ρ (.tmp 20) = .agg #[.int .i64 v0, .int .i64 v1, .int .i64 v2] → (execOp ρ o).run Try.prog X.drew = .ok (.round l fn tmps assign body) X.drew := by
        intro o ρ h1 h2 h3
        simp [execOp, h1, resolve, invoke, h2, h3, go_sem, hy]
      refine anyIn_one (i := 14) (by kernel_rfl) rfl rfl (by intro c hc; cases hc) (hsem _ _ rfl rfl rfl) (fun _ _ => trivial) ?_
      refine ⟨fun q => (by cases q), (RoundIn.wide hR).mono ?_⟩
      rintro e W3 h0
      obtain ⟨v, rfl, h3⟩ : ∃ v, e = .returned (.bool v) ∧ ((v = true ∧ J (k + 1) W3 ∧ Keep S X.drew W3) ∨ (v = false ∧ Z W3 ∧ Keep S X.drew W3)) := h0.elim (fun q => ⟨true, q.1, .inl ⟨rfl, q.2⟩⟩) (fun q => ⟨false, q.1, .inr ⟨rfl, q.2⟩⟩)
      clear hsem hR hy h0
      refine anyIn_one (i := 15) (r := .ok (.value (.bool (!v))) W3) (by kernel_rfl) rfl rfl (by intro c hc; cases hc) (by go_simp) (by intro f hf; cases hf) ?_
      refine wpAnyIn_done (by kernel_rfl) ?_ _
      rcases h3 with ⟨rfl, hj3, hk3⟩ | ⟨rfl, hz3, hk3⟩
      · have HI3 : Hid (EI J S l W.heap.size V.heap.size b o n N bs (k + 1) W3) := Lib.hid ⟨hj3, hk3.bk HB2.out.drew (fun q => by have := HSW.out _ q; omega), fun _ => HL.out.keep ((Keep.of_below (Below.refl _ _).drew).trans hk3), Nat.le_trans HZ4.out hk3.size⟩
        have HK3 : Hid (Keep S X W3) := Lib.hid ((Keep.of_below (Below.refl _ _).drew).trans hk3)
        clear hj3 hk3
        gi_wp2
        exact ⟨HK3.out, HI3.out⟩
      · have HZ3 := Lib.hid hz3
        have HK3 : Hid (Keep S X W3) := Lib.hid ((Keep.of_below (Below.refl _ _).drew).trans hk3)
        clear hz3 hk3
        gi_wp2
        exact ⟨HK3.out, rfl, HZ3.out⟩
  case done =>
    rintro D X hD ⟨h1, h2, h3, h4⟩ hd
    have HJN := Lib.hid (HJ.out _ _ _ h1 ((Keep.put (S := fun k => k = D) (.deferred none) rfl).below (B := W.heap.size) (by have := HJS.out _ _ h1; omega) (fun k hk => by omega)))
    clear h1 h2 h3 h4
    gi_wp2
    refine ⟨by simp, .inl ⟨_, _, rfl, run_takeDeferred hd, ?_⟩⟩
    exact ⟨_, results_none rfl _ _ _, ⟨_, rfl⟩, .inl HJN.out⟩
  case stop =>
    rintro D cd X hD ⟨rfl, h2⟩ hd
    have HZN := Lib.hid (HZ.out _ _ h2 ((Keep.put (S := fun k => k = D) (.deferred none) rfl).below (B := W.heap.size) (by have := HZS.out _ h2; omega) (fun k hk => by omega)))
    clear h2
    gi_wp2
    refine ⟨by simp, .inl ⟨_, _, rfl, run_takeDeferred hd, ?_⟩⟩
    exact ⟨_, results_none rfl _ _ _, ⟨_, rfl⟩, .inr HZN.out⟩

end Go.Proofs.Ytpfnoohcilefhaa

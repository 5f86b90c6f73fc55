/-
  Layer 19, the program: Read.
-/
import Derived.Test.YtpfnoohcilefhaaEp1
import Derived.Test.YtpfnoohcilefhaaEp2
import Derived.Lib.SliceRun
namespace Go.Proofs.Ytpfnoohcilefhaa
open Go.RowKit Go.Shelf
attribute [local go_sem] Oper.semAt_some wide_depthE

theorem results_readE (tmps : Array Value) (w : World) (g2 g3 n c : Nat) (A : Option Addr) (e : Int) (h2 : tmps.getD 2 undef = .pointer (some ⟨g2, 0, none⟩)) (h3 : tmps.getD 3 undef = .pointer (some ⟨g3, 0, none⟩))
    (c2 : w.cell? ⟨g2, 0, none⟩ = some (.slice A n c)) (c3 : w.cell? ⟨g3, 0, none⟩ = some (.int .i64 e)) :
    (results Try.f16 tmps).run Try.prog w = .ok (.tuple #[.slice A n c, .int .i64 e]) w := by
  rw [Array.getD_eq_getD_getElem?] at h2 h3
  simp [results, Try.results16, go_sem, h2, h3, c2, c3]

/-- A row in a block that lies as it lay. -/
theorem row_below {B base g k cap sz : Nat} {E : TypeId} {xs : List Value} {X Y : World} (h : X.ownsRow base E sz (.slice (some ⟨g, 0, none⟩) k cap) k xs) (hb : Below B X Y) (hg : g < B) : Y.ownsRow base E sz (.slice (some ⟨g, 0, none⟩) k cap) k xs := by
  refine ⟨h.1, ?_⟩
  rcases h.2 with ⟨h2, _⟩ | ⟨g', cap', cur, e, hb', hh, r⟩
  · cases h2
  · cases e
    exact .inr ⟨g, cap, cur, rfl, hb', (hb.block g hg).trans hh, r⟩
theorem row_keep {S : Nat → Prop} {base g k cap sz : Nat} {E : TypeId} {xs : List Value} {X Y : World} (h : X.ownsRow base E sz (.slice (some ⟨g, 0, none⟩) k cap) k xs) (hb : Keep S X Y) (hg : ¬ S g) : Y.ownsRow base E sz (.slice (some ⟨g, 0, none⟩) k cap) k xs := by
  refine ⟨h.1, ?_⟩
  rcases h.2 with ⟨h2, _⟩ | ⟨g', cap', cur, e, hb', hh, r⟩
  · cases h2
  · cases e
    exact .inr ⟨g, cap, cur, rfl, hb', (hb.same g (Array.getElem?_eq_some_iff.1 hh).1 hg).trans hh, r⟩
theorem Keep.of_grown {S : Nat → Prop} {X Y : World} {g : Nat} (h : X.grownBy Y (some g)) (hg : S g) : Keep S X Y :=
  ⟨h.os, h.tape, h.output, h.size, fun k hk hs => h.block k hk (fun e => by injection e with e; exact hs (e ▸ hg))⟩
theorem Keep.cell_ {S : Nat → Prop} (X : World) {g : Nat} (hg : S g) (v : Value) : Keep S X (X.setCell ⟨g, 0, none⟩ v) := Keep.of_grown (grownBy_setCell' X g v) hg

theorem read_two (w : World) (e : Int) : ∃ V, (w.alloc (.cells #[.slice none 0 0] 31)).alloc (.cells #[.int .i64 e] 28) = V ∧ Bk V w.heap.size 31 #[.slice none 0 0] ∧ Bk V (w.heap.size + 1) 28 #[.int .i64 e] ∧ Below w.heap.size w V ∧ V.heap.size = w.heap.size + 2 := by
  refine ⟨_, rfl, (Bk.new w _ _).alloc _, ?_, ((Below.refl _ w).alloc (Nat.le_refl _) _).alloc (by simp) _, by simp⟩
  have := Bk.new (w.alloc (.cells #[.slice none 0 0] 31)) 28 #[.int .i64 e]
  simpa using this

set_option maxHeartbeats 1000000 in
theorem read_long (A : Option Addr) (n c : Nat) (w : World) (h : 196608 < n) :
    Calls Try.prog 16 #[.slice A n c] w (ReadP ([], 3) w) := by
  have t0 : decide (196608 < (n : Int)) = true := decide_eq_true (by omega)
  have t0n : decide (196608 < n) = true := decide_eq_true (by omega)
  clear h
  obtain ⟨V, hV, k0, k1, hb, -⟩ := read_two w 3
  have HV := Lib.hid hV
  have K0 := Lib.hid k0
  have K1 := Lib.hid k1
  have HB := Lib.hid hb
  clear hV k0 k1 hb
  go_enter Try.func16, Try.ntmps16
  go_wp2_with fail
  rw [HV.out]
  exact bodyPost_ret (results_readE _ _ _ _ 0 0 none 3 rfl rfl K0.out.one K1.out.one) rfl ⟨none, 0, rfl, OwnP.nil_ _ _ _, HB.out⟩

set_option maxHeartbeats 1000000 in
theorem read_odd (A : Option Addr) (n c : Nat) (w : World) (h : ¬ 196608 < n) (k : n % 3 ≠ 0) :
    Calls Try.prog 16 #[.slice A n c] w (ReadP ([], 2) w) := by
  have t0 : decide (196608 < (n : Int)) = false := decide_eq_false (by omega)
  have t0n : decide (196608 < n) = false := decide_eq_false (by omega)
  have hm : ((n : Int) % 3 != 0) = true := by simp; omega
  clear h k
  obtain ⟨V, hV, k0, k1, hb, -⟩ := read_two w 2
  have HV := Lib.hid hV
  have K0 := Lib.hid k0
  have K1 := Lib.hid k1
  have HB := Lib.hid hb
  clear hV k0 k1 hb
  go_enter Try.func16, Try.ntmps16
  go_wp2_with fail
  rw [HV.out]
  exact bodyPost_ret (results_readE _ _ _ _ 0 0 none 2 rfl rfl K0.out.one K1.out.one) rfl ⟨none, 0, rfl, OwnP.nil_ _ _ _, HB.out⟩

/-- Between two rounds. -/
def RIe (w : World) (qb N B : Nat) (es : List I3) (k : Nat) (X : World) : Prop :=
  Bk X w.heap.size 31 #[.slice none 0 0] ∧ Bk X (w.heap.size + 1) 28 #[.int .i64 0] ∧ Bk X qb 31 #[.slice (some ⟨w.heap.size + 2, 0, none⟩) k N] ∧
    X.ownsRow w.heap.size 45 3 (.slice (some ⟨w.heap.size + 2, 0, none⟩) k N) k (cellsP (es.take k)) ∧ (∀ j, j < k → mayE (ith es j) = true) ∧ Below w.heap.size w X ∧ B ≤ X.heap.size
/-- Where one has come that may not be. -/
def RSe (w : World) (N B : Nat) (es : List I3) (cd : Code) (X : World) : Prop :=
  cd = .ret ∧ Bk X w.heap.size 31 #[.slice none 0 0] ∧ Bk X (w.heap.size + 1) 28 #[.int .i64 2] ∧ (∃ j, j < N ∧ mayE (ith es j) = false) ∧ Below w.heap.size w X ∧ B ≤ X.heap.size
theorem RIe.below {w X Y : World} {qb N B k : Nat} {es : List I3} (h : RIe w qb N B es k X) {C : Nat} (hb : Below C X Y) (h1 : w.heap.size + 2 < C) (h2 : qb < C) : RIe w qb N B es k Y := by
  obtain ⟨a1, a2, a3, a4, a5, a6, a7⟩ := h
  exact ⟨a1.below hb (by omega), a2.below hb (by omega), a3.below hb h2, row_below a4 hb h1, a5, a6.trans (hb.mono (by omega)), Nat.le_trans a7 hb.size⟩
theorem RSe.below {w X Y : World} {N B : Nat} {es : List I3} {cd : Code} (h : RSe w N B es cd X) {C : Nat} (hb : Below C X Y) (h1 : w.heap.size + 2 < C) : RSe w N B es cd Y := by
  obtain ⟨a1, a2, a3, a4, a5, a6⟩ := h
  exact ⟨a1, a2.below hb (by omega), a3.below hb (by omega), a4, a5.trans (hb.mono (by omega)), Nat.le_trans a6 hb.size⟩

set_option maxRecDepth 100000 in
set_option maxHeartbeats 4000000 in
theorem read_all (A : Option Addr) (n c N : Nat) (bs : List Int) (w : World) (hx : Octs w A n bs) (hc : n ≤ c ∧ c ≤ 9223372036854775807) (hn : n = 3 * N) (h9 : n ≤ 196608) :
    Calls Try.prog 16 #[.slice A n c] w (ReadP (rdR bs) w) := by
  have HX := Lib.hid hx
  have HN := Lib.hid hn
  have LB := Lib.hid hx.1
  have t0 : decide (196608 < (n : Int)) = false := decide_eq_false (by omega)
  have t0n : decide (196608 < n) = false := decide_eq_false (by omega)
  have hm : ((n : Int) % 3 != 0) = false := by simp; omega
  have hq : (n : Int).tdiv 3 = (N : Int) := by rw [Int.tdiv_eq_ediv_of_nonneg (by omega)]; omega
  obtain ⟨V, hV, k0, k1, hb, sz⟩ := read_two w 0
  have HV := Lib.hid hV
  have K0 := Lib.hid k0
  have K1 := Lib.hid k1
  have HB := Lib.hid hb
  clear hV k0 k1 hb hx hn
  refine (callsIn_wide (n := 5)).1 ?_
  refine callsIn_of_wp_marks Try.func16 rfl trivial ?_
  simp only [Try.ntmps16, List.size_toArray, List.length_cons, List.length_nil, Nat.reduceAdd, Nat.reduceSub, Array.replicate_succ, Array.replicate_zero, List.push_toArray, List.append_toArray, List.nil_append, List.cons_append]
  obtain ⟨i0, hi, hz0, hz1, hz2⟩ := info_parts Try.enInfo
  have HI := Lib.hid hi
  have HZ0 := Lib.hid hz0
  have HZ1 := Lib.hid hz1
  have HZ2 := Lib.hid hz2
  clear hi hz0 hz1 hz2
  have hN9 : N ≤ 65536 := by have := HN.out; omega
  obtain ⟨b, o, hbo⟩ : ∃ b o, 0 < N → A = some ⟨b, o, none⟩ ∧ b < w.heap.size ∧ ∀ j, j < n → w.cell? ⟨b, o + j, none⟩ = some (.int .u8 (nth bs j)) := by
    by_cases hp : 0 < N
    · obtain ⟨b, o, h1, h2, h3⟩ := HX.out.2.2.2 (by have := HN.out; omega)
      exact ⟨b, o, fun _ => ⟨h1, h2, h3⟩⟩
    · exact ⟨0, 0, fun q => absurd q hp⟩
  have HBO := Lib.hid hbo
  clear hbo
  gi_wp2_with (gi_at_make; rw [HV.out]; refine wpListIn_make_own _ rfl _ _ 31 rfl w.heap.size 45 i0 _ 3 Try.underlying31 HI.out HZ0.out HZ1.out .i64 .i64 _ N rfl rfl rfl (by rw [HZ2.out]; omega) (by unfold maxLen; omega) (by omega) ?_; intro w1 hown hgr; rw [sz] at hown ⊢; have HOWN := Lib.hid hown; have hs1 := hgr.size; have HGR := Lib.hid hgr; clear hown hgr)
  refine ⟨trivial, ?_⟩
  refine (callsIn_wide.2 (entries_en A n c _)).mono ?_
  rintro e w2 ⟨rfl, rfl⟩
  have k0 := ((K0.out.grown HGR.out (by simp)).alloc (.cells #[.slice (some ⟨w.heap.size + 2, 0, none⟩) 0 N] 31)).alloc (.cells #[.slice A n c] 32)
  have k1 := ((K1.out.grown HGR.out (by simp)).alloc (.cells #[.slice (some ⟨w.heap.size + 2, 0, none⟩) 0 N] 31)).alloc (.cells #[.slice A n c] 32)
  have k2 := (Bk.new w1 31 #[.slice (some ⟨w.heap.size + 2, 0, none⟩) 0 N]).alloc (.cells #[.slice A n c] 32)
  have k3 := Bk.new (w1.alloc (.cells #[.slice (some ⟨w.heap.size + 2, 0, none⟩) 0 N] 31)) 32 #[.slice A n c]
  have ho := (HOWN.out.alloc (.cells #[.slice (some ⟨w.heap.size + 2, 0, none⟩) 0 N] 31)).alloc (.cells #[.slice A n c] 32)
  have bb : Below w.heap.size w ((w1.alloc (.cells #[.slice (some ⟨w.heap.size + 2, 0, none⟩) 0 N] 31)).alloc (.cells #[.slice A n c] 32)) := ((HB.out.grown HGR.out (by omega) (fun _ q => by cases q)).alloc (by omega) _).alloc (by simp; omega) _
  have sz3 : ((w1.alloc (.cells #[.slice (some ⟨w.heap.size + 2, 0, none⟩) 0 N] 31)).alloc (.cells #[.slice A n c] 32)).heap.size = w1.heap.size + 2 := by simp
  have lg := (HOWN.out.lt _ rfl).2
  simp only [World.size_alloc] at k3 ⊢
  dsimp only at lg
  obtain ⟨V3, hV3⟩ : ∃ V3, (w1.alloc (.cells #[.slice (some ⟨w.heap.size + 2, 0, none⟩) 0 N] 31)).alloc (.cells #[.slice A n c] 32) = V3 := ⟨_, rfl⟩
  rw [hV3] at k0 k1 k2 k3 ho bb sz3 ⊢
  obtain ⟨qb, hqb⟩ : ∃ qb, w1.heap.size = qb := ⟨_, rfl⟩
  rw [hqb] at k2 k3 sz3 lg hs1 ⊢
  have L0 := Lib.hid k0
  have L1 := Lib.hid k1
  have L2 := Lib.hid k2
  have L3 := Lib.hid k3
  have LO := Lib.hid ho
  have LB3 := Lib.hid bb
  clear hV3 hqb k0 k1 k2 k3 ho bb HOWN HGR K0 K1 HV HB
  gi_wp2
  refine range_k rfl eg_entries (S := fun k => w.heap.size ≤ k ∧ k ≤ qb) (fun k hk => by omega)
    (entries1_seq _ (fun k => (w.heap.size ≤ k ∧ k ≤ qb) ∨ k = V3.heap.size ∨ k = V3.heap.size + 1) A b o n c N (qb + 1) bs V3 L3.out (fun hp => ⟨(HBO.out hp).1, (by rintro (q | q | q) <;> have := (HBO.out hp).2.1 <;> omega), Nat.lt_of_lt_of_le (HBO.out hp).2.1 LB3.out.size, fun j hj => (LB3.out.cell (p := ⟨b, o + j, none⟩) (HBO.out hp).2.1).trans ((HBO.out hp).2.2 j hj)⟩) (HX.out.oct) HN.out hc h9) (fun _ => rfl)
    (RIe w qb N V3.heap.size (lsE bs)) (RSe w N V3.heap.size (lsE bs)) (fun k a' X => ∃ Bx, V3.heap.size + 2 ≤ Bx ∧ Bk X Bx 45 #[.int .i64 (nth bs (3 * k)), .int .i64 (nth bs (3 * k + 1)), .int .i64 (nth bs (3 * k + 2))] ∧ a' = { tmps := #[.slice A n c, undef, .pointer (some ⟨w.heap.size, 0, none⟩), .pointer (some ⟨w.heap.size + 1, 0, none⟩), .pointer (some ⟨qb, 0, none⟩), .pointer (some ⟨Bx, 0, none⟩), .slice A n c, .int .i64 (n : Int), .bool false, .slice A n c, .int .i64 (n : Int), .int .i64 ((n : Int) % 3), .bool false, .slice A n c, .int .i64 (n : Int), .int .i64 (N : Int), .slice (some ⟨w.heap.size + 2, 0, none⟩) 0 N, .slice A n c, .func (.func 58) #[] #[.pointer (some ⟨qb + 1, 0, none⟩)], .agg #[.int .i64 (nth bs (3 * k)), .int .i64 (nth bs (3 * k + 1)), .int .i64 (nth bs (3 * k + 2))], undef, undef, undef, undef, undef, undef, undef, undef], defers := [] }) ?hI ?hIx ?hA ?h0 ?round ?body ?done ?stop
  case hI =>
    intro k X Y h hb
    exact h.below hb (by omega) (by omega)
  case hIx =>
    intro cd X Y h hb
    exact h.below hb (by omega)
  case hA =>
    rintro k a' X Y ⟨Bx, h1, h2, h3⟩ hb
    exact ⟨Bx, h1, hb.bk h2 (by omega), h3⟩
  case h0 => exact ⟨L0.out, L1.out, L2.out, LO.out, fun j hj => absurd hj (Nat.not_lt_zero _), LB3.out, Nat.le_refl _⟩
  case round =>
    intro l k X hi hk hz
    have b1 := (Below.refl X.heap.size X).alloc (Nat.le_refl _) (.cells #[.int .i64 (nth bs (3 * k)), .int .i64 (nth bs (3 * k + 1)), .int .i64 (nth bs (3 * k + 2))] 45)
    have HK := Lib.hid (Keep.of_below (S := fun k => w.heap.size ≤ k ∧ k ≤ qb) b1)
    have HI := Lib.hid (hi.below b1 (by omega) (by omega))
    have HBX := Lib.hid (Bk.new X 45 #[.int .i64 (nth bs (3 * k)), .int .i64 (nth bs (3 * k + 1)), .int .i64 (nth bs (3 * k + 2))])
    clear hi b1
    simp only [encE]
    gi_wp2
    exact ⟨HK.out, HI.out, X.heap.size, hz, HBX.out, rfl⟩
  case body =>
    rintro l k a' X hi hk hz ⟨Bx, hx1, hx2, rfl⟩
    have hkl := lsE_at N bs (by rw [LB.out]; exact HN.out) k hk
    have hll := (txE_lsE N bs (by rw [LB.out]; exact HN.out)).2
    have o0 := HX.out.oct (3 * k)
    have o1 := HX.out.oct (3 * k + 1)
    have o2 := HX.out.oct (3 * k + 2)
    generalize nth bs (3 * k) = v0 at hkl o0 hx2 ⊢
    generalize nth bs (3 * k + 1) = v1 at hkl o1 hx2 ⊢
    generalize nth bs (3 * k + 2) = v2 at hkl o2 hx2 ⊢
    unfold Oct at o0 o1 o2
    have HFX : Hid (FitI (v0, v1, v2)) := Lib.hid (by simp only [FitI, Fit]; omega)
    have HTK : Hid ((lsE bs).take (k + 1) = (lsE bs).take k ++ [(v0, v1, v2)]) := Lib.hid (by rw [ith_takeE (by rw [hll]; exact hk), hkl])
    have HKL := Lib.hid hkl
    have HBX := Lib.hid hx2
    have HIX := Lib.hid hi
    obtain ⟨x0, x1, x2⟩ := hx2.c3e
    have lx := hx2.lt
    clear hi hx2 hkl hll o0 o1 o2
    gi_wp2
    refine ⟨trivial, ?_⟩
    refine (CallsIn.inRound l (callsIn_wide.2 (may_en (v0, v1, v2) X))).mono ?_
    rintro e U ⟨rfl, bU⟩
    have HIU := Lib.hid (HIX.out.below bU (by omega) (by omega))
    have HKU := Lib.hid (Keep.of_below (S := fun k => w.heap.size ≤ k ∧ k ≤ qb) bU)
    have HBU := Lib.hid (HBX.out.below bU lx)
    clear bU x0 x1 x2 lx HIX HBX
    obtain ⟨q0, q1, q2, q3, q4, q5, q6⟩ := HIU.out
    cases hv : mayE (v0, v1, v2)
    · have HM : Hid (mayE (ith (lsE bs) k) = false) := Lib.hid (by rw [HKL.out]; exact hv)
      have c0 := q0.one
      have c1 := q1.one
      have f0 := q0.frozen 0
      have f1 := q1.frozen 0
      have n0 : w.heap.size < U.heap.size := by omega
      have HR : Hid (RSe w N V3.heap.size (lsE bs) .ret ((U.setCell ⟨w.heap.size, 0, none⟩ (.slice none 0 0)).setCell ⟨w.heap.size + 1, 0, none⟩ (.int .i64 2))) := Lib.hid ⟨rfl, (q0.set_ 0 _).far (by simp) _, (q1.far (p := ⟨w.heap.size, 0, none⟩) (by simp) _).set_ 0 _, ⟨k, hk, HM.out⟩, (q5.setCell (by simp) _).setCell (by simp) _, by simpa using q6⟩
      have HS : Hid (Keep (fun k => w.heap.size ≤ k ∧ k ≤ qb) X ((U.setCell ⟨w.heap.size, 0, none⟩ (.slice none 0 0)).setCell ⟨w.heap.size + 1, 0, none⟩ (.int .i64 2))) := Lib.hid ((HKU.out.trans (Keep.cell_ _ (by omega) _)).trans (Keep.cell_ _ (by omega) _))
      clear q0 q1 q2 q3 q4 q5 q6 hv
      gi_wp2
      exact ⟨HS.out, HR.out⟩
    · have HM : Hid (mayE (ith (lsE bs) k) = true) := Lib.hid (by rw [HKL.out]; exact hv)
      have c2 := q2.one
      obtain ⟨x0, x1, x2⟩ := HBU.out.c3e
      have lx := HBU.out.lt
      have hs5 : w.heap.size ≤ U.heap.size := q5.size
      have lqb := q2.lt
      have HS : Hid (∀ j u, (cells3 (v0, v1, v2))[j]? = some u → (U.alloc (.cells #[.int .i64 v0, .int .i64 v1, .int .i64 v2] 45)).cell? ((⟨U.heap.size, 0, none⟩ : Addr).add j) = some u) := Lib.hid (fun j u hu => by
        rw [Addr.add_lit, Nat.zero_add, (Bk.new U 45 #[.int .i64 v0, .int .i64 v1, .int .i64 v2]).cell j]
        simpa [cells3] using hu)
      have HQ := Lib.hid (And.intro q0 (And.intro q1 (And.intro q2 (And.intro q4 q5))))
      have HOW := Lib.hid q3
      clear q0 q1 q2 q3 q4 q5 hv
      gi_wp2_with (gi_at_builtin; refine wpListIn_append_fits _ rfl _ _ 31 rfl w.heap.size 45 i0 3 Try.underlying31 HI.out HZ1.out (w.heap.size + 2) k N _ rfl (HOW.out.alloc _) ⟨U.heap.size, 0, none⟩ 1 1 (cells3 (v0, v1, v2)) rfl rfl HS.out (by simp [cells3, Value.oneCell']) (by omega) ?_; intro w1 hown hgr; have hb9 := ((HQ.out.2.2.1.alloc (.cells #[.int .i64 v0, .int .i64 v1, .int .i64 v2] 45)).grown hgr (by simp; omega)); have d1 := hb9.one; have e1 := hb9.frozen 0; have HB9 := Lib.hid hb9; have HO9 := Lib.hid hown; have HG9 := Lib.hid hgr; clear hb9 hown hgr)
      have bl : Below w.heap.size U (U.alloc (.cells #[.int .i64 v0, .int .i64 v1, .int .i64 v2] 45)) := (Below.refl _ U).alloc hs5 _
      have hz9 : U.heap.size ≤ w1.heap.size := by have := HG9.out.size; simp at this; omega
      refine ⟨(((HKU.out.trans (Keep.of_below ((Below.refl _ U).alloc (Nat.le_refl _) _))).trans (Keep.of_grown HG9.out (by omega))).trans (Keep.cell_ _ (by omega) _)), ?_, ?_, ?_, ?_, ?_, ?_, ?_⟩
      · exact ((HQ.out.1.alloc _).grown HG9.out (by simp)).far (by simp; omega) _
      · exact ((HQ.out.2.1.alloc _).grown HG9.out (by simp)).far (by simp; omega) _
      · exact HB9.out.set_ 0 _
      · rw [HTK.out, cellsP_app]
        exact HO9.out.kept (grownBy_setCell' w1 qb _) (.inr (by simp [Value.ownBlock]; omega))
      · intro j hj
        rcases Nat.lt_or_ge j k with h | h
        · exact HQ.out.2.2.2.1 j h
        · obtain rfl : j = k := by omega
          exact HM.out
      · exact ((HQ.out.2.2.2.2.trans bl).grown HG9.out (by simp; omega) (by intro q hq; simp at hq; omega)).setCell (by simp; omega) _
      · simp
        omega
  case done =>
    rintro D X hD ⟨a1, a2, a3, a4, a5, a6, a7⟩ hd
    have hll := (txE_lsE N bs (by rw [LB.out]; exact HN.out)).2
    have hall : allE (lsE bs) := fun j hj => a5 j (by omega)
    have HR : Hid (rdR bs = (lsE bs, 0)) := Lib.hid (rdR_ok (by rw [LB.out]; omega) (by rw [LB.out]; have := HN.out; omega) hall)
    have HE : Hid ((lsE bs).take N = lsE bs) := Lib.hid (List.take_of_length_le (by omega))
    have HLL := Lib.hid hll
    have c0 := a1.one
    have c1 := a2.one
    have c2 := a3.one
    have f0 := a1.frozen 0
    have f1 := a2.frozen 0
    have l0 := a1.lt
    have l1 := a2.lt
    have HQ := Lib.hid (And.intro a1 (And.intro a2 (And.intro a4 a6)))
    have HD := Lib.hid hd
    have HFI : Hid (∀ z ∈ lsE bs, FitI z) := Lib.hid (fun z hz => by
      obtain ⟨j, hj, e⟩ := List.mem_iff_getElem.1 hz
      have h1 := lsE_at N bs (by rw [LB.out]; exact HN.out) j (by omega)
      rw [ith_get hj, e] at h1
      have o0 := HX.out.oct (3 * j)
      have o1 := HX.out.oct (3 * j + 1)
      have o2 := HX.out.oct (3 * j + 2)
      unfold Oct at o0 o1 o2
      rw [h1]
      simp only [FitI, Fit]
      omega)
    clear a1 a2 a3 a4 a5 a6 hd hll hall
    gi_wp2
    have K1 : Keep (fun k => k = w.heap.size ∨ k = w.heap.size + 1) X ((X.setCell ⟨w.heap.size, 0, none⟩ (.slice (some ⟨w.heap.size + 2, 0, none⟩) N N)).setCell ⟨w.heap.size + 1, 0, none⟩ (.int .i64 0)) := (Keep.cell_ _ (.inl rfl) _).trans (Keep.cell_ _ (.inr rfl) _)
    have hlt := (Array.getElem?_eq_some_iff.1 HD.out).1
    have hd2 := (K1.same D hlt (by omega)).trans HD.out
    have B0 : Bk ((X.setCell ⟨w.heap.size, 0, none⟩ (.slice (some ⟨w.heap.size + 2, 0, none⟩) N N)).setCell ⟨w.heap.size + 1, 0, none⟩ (.int .i64 0)) w.heap.size 31 #[.slice (some ⟨w.heap.size + 2, 0, none⟩) N N] := (HQ.out.1.set_ 0 _).far (by simp) _
    have B1 : Bk ((X.setCell ⟨w.heap.size, 0, none⟩ (.slice (some ⟨w.heap.size + 2, 0, none⟩) N N)).setCell ⟨w.heap.size + 1, 0, none⟩ (.int .i64 0)) (w.heap.size + 1) 28 #[.int .i64 0] := (HQ.out.2.1.far (p := ⟨w.heap.size, 0, none⟩) (by simp) _).set_ 0 _
    have R1 := row_keep HQ.out.2.2.1 K1 (by omega)
    have W1 := HQ.out.2.2.2.trans (K1.below (B := w.heap.size) HQ.out.2.2.2.size (by omega))
    obtain ⟨Y, hY⟩ : ∃ Y, (X.setCell ⟨w.heap.size, 0, none⟩ (.slice (some ⟨w.heap.size + 2, 0, none⟩) N N)).setCell ⟨w.heap.size + 1, 0, none⟩ (.int .i64 0) = Y := ⟨_, rfl⟩
    rw [hY] at hd2 B0 B1 R1 W1 ⊢
    have KD := Keep.put (X := Y) (S := fun k => k = D) (.deferred none) rfl
    refine ⟨by simp, .inl ⟨_, _, rfl, run_takeDeferred hd2, ?_⟩⟩
    refine ⟨_, results_readE _ _ w.heap.size (w.heap.size + 1) N N (some ⟨w.heap.size + 2, 0, none⟩) 0 rfl rfl (KD.bk B0 (by omega)).one (KD.bk B1 (by omega)).one, some ⟨w.heap.size + 2, 0, none⟩, N, ?_, ?_, W1.trans (KD.below W1.size (by omega))⟩
    · rw [HR.out]
      dsimp only
      rw [HLL.out]
    · rw [HR.out]
      refine ⟨by dsimp only; rw [HLL.out]; omega, HFI.out, ?_⟩
      dsimp only
      have := row_keep R1 KD (by omega)
      rw [HE.out] at this
      rw [HLL.out]
      exact this
  case stop =>
    rintro D cd X hD ⟨rfl, a2, a3, a4, a5, a6⟩ hd
    have HR : Hid (rdR bs = ([], 2)) := Lib.hid (by
      obtain ⟨j, hj, hm⟩ := a4
      have hll := (txE_lsE N bs (by rw [LB.out]; exact HN.out)).2
      exact rdR_no (by rw [LB.out]; omega) (by rw [LB.out]; have := HN.out; omega) (fun q => by have := q j (by omega); rw [hm] at this; cases this))
    have HQ := Lib.hid (And.intro a2 (And.intro a3 a5))
    have HD := Lib.hid hd
    clear a2 a3 a4 a5 hd
    gi_wp2
    have KD := Keep.put (X := X) (S := fun k => k = D) (.deferred none) rfl
    refine ⟨by simp, .inl ⟨_, _, rfl, run_takeDeferred HD.out, ?_⟩⟩
    refine ⟨_, results_readE _ _ w.heap.size (w.heap.size + 1) 0 0 none 2 rfl rfl (KD.bk HQ.out.1 (by omega)).one (KD.bk HQ.out.2.1 (by omega)).one, none, 0, ?_, ?_, HQ.out.2.2.trans (KD.below HQ.out.2.2.size (by omega))⟩
    · rw [HR.out]
      rfl
    · rw [HR.out]
      exact OwnP.nil_ _ _ _

theorem OwnO.capN {E : TypeId} {w : World} {base : Nat} {A : Option Addr} {c : Nat} {zs : List Int} (h : OwnO E w base A c zs) : zs.length ≤ c ∧ c ≤ 9223372036854775807 := by
  rcases h.2.2.2 with ⟨e, _⟩ | ⟨g, cap, cur, e, _, _, h1, h2, _⟩
  · injection e with e1 e2 e3
    omega
  · injection e with e1 e2 e3
    subst e3
    unfold maxLen at h2
    exact ⟨h1, by omega⟩

theorem read_en (A : Option Addr) (n c : Nat) (bs : List Int) (w : World) (hx : Octs w A n bs) (hc : n ≤ c ∧ c ≤ 9223372036854775807) :
    Calls Try.prog 16 #[.slice A n c] w (ReadP (rdR bs) w) := by
  have hl := hx.1
  by_cases h : 196608 < n
  · rw [rdR_long (by omega)]
    exact read_long A n c w h
  · by_cases k : n % 3 ≠ 0
    · rw [rdR_odd (by omega) (by omega)]
      exact read_odd A n c w h k
    · exact read_all A n c (n / 3) bs w hx hc (by omega) (by omega)

end Go.Proofs.Ytpfnoohcilefhaa

/-
  The contracts of the document's pop (layer 7), a way each.
-/
import Derived.Test.YtfmiamjbhlglbaaRu
import Derived.Deep.RegionHeld3
namespace Go.Proofs.Ytfmiamjbhlglbaa
open Go.RowKit

set_option maxRecDepth 100000 in
set_option maxHeartbeats 2000000 in
theorem rpop0 (c base cap gA B : Nat) (ms : List Int) (v t b : Int) (wn : Bool) (y : Int) (w : World) (hBw : B ≤ w.heap.size) (hx : OwnI 2 w B (some ⟨gA, 0, none⟩) c ms) (hgA : gA < w.heap.size) (hlen : base + 2 + cap ≤ ms.length) (hbig : ms.length ≤ 65536) (hc1 : 1 ≤ cap) (hc2 : cap ≤ 1024) (hy : nth ms (base + 1) = y) (fy : Fit y) :
    Calls Try.prog 24 #[.slice (some ⟨gA, 0, none⟩) ms.length c, .agg #[.int .i64 base, .int .i64 cap], .agg #[.int .i64 2, .int .i64 0, .int .i64 v, .int .i64 t, .int .i64 b, .bool wn, .int .i64 0]] w (RetMO B ms ⟨2, 1, v, t, y, wn, 0⟩ (decide (cntOk y 0)) w) := by
  have := hBw
  clear this
  have := hbig
  clear this
  have := hlen
  clear this
  have := hc1
  clear this
  have := hc2
  clear this
  have := hgA
  clear this
  have := hy
  clear this
  have := fy
  clear this
  have hwB : IntKind.i64.wrap ((base : Int) + 1) = (base : Int) + 1 := by rw [IntKind.wrap_i64]; omega
  have HX0 := Lib.hid hx
  have hi0 : base < ms.length := by omega
  have hi1 : base + 1 < ms.length := by omega
  obtain ⟨hS, hR, hB⟩ := three_is w base cap 2 0 v t b wn 0
  have HX := Lib.hid (hx.below hB)
  have a0 : _ = some (Value.int .i64 base) := hS.q.cell 0
  have a1 : _ = some (Value.int .i64 cap) := hS.q.cell 1
  obtain ⟨ah0, ah1, ah2, ah3, ah4, ah5, ah6⟩ := hS.h.c7
  have af4 := hS.h.frozen 4
  have am0 := (HX.out.at_ (j := base + 1) (by omega)).1; rw [hy] at am0
  unfold three at af4 am0 a0 a1 ah0 ah1 ah2 ah3 ah4 ah5 ah6
  clear hS hR hB HX
  obtain ⟨hS, hR, hB⟩ := three_is w base cap 2 0 v t y wn 0
  have HX := Lib.hid (hx.below hB)
  have b0 : _ = some (Value.int .i64 base) := hS.q.cell 0
  have b1 : _ = some (Value.int .i64 cap) := hS.q.cell 1
  obtain ⟨bh0, bh1, bh2, bh3, bh4, bh5, bh6⟩ := hS.h.c7
  have bf4 := hS.h.frozen 4
  have bm0 := (HX.out.at_ (j := base + 1) (by omega)).1; rw [hy] at bm0
  unfold three at bf4 bm0 b0 b1 bh0 bh1 bh2 bh3 bh4 bh5 bh6
  clear hS hR hB HX
  clear hx
  go_enter Try.func24, Try.ntmps24
  go_wp2_with fail
  clear af4 am0 a0 a1 ah0 ah1 ah2 ah3 ah4 ah5 ah6 bf4 bm0 b0 b1 bh0 bh1 bh2 bh3 bh4 bh5 bh6
  obtain ⟨hS0, hR0, hB0⟩ := three_is w base cap 2 0 v t y wn 0
  have hO0 := HX0.out.below hB0
  have hS0 := hS0.drew
  have hR0 := hR0.drew
  have hB0 := hB0.drew
  have hO0 := hO0.below (Below.refl _ _).drew
  refine wp_region_held (S := SBox w.heap.size base cap 2 0 v t y wn 0) (by kernel_rfl) ?_
  change wpAnyH _ _ _ _ _ _ _ _ (World.drew (three w base cap 2 0 v t y wn 0))
  generalize (three w base cap 2 0 v t y wn 0).drew = U0 at hS0 hR0 hB0 hO0 ⊢
  refine take_at (i := 0) (d := 20) (v := .slice (some ⟨gA, 0, none⟩) ms.length c) rfl rfl (by kernel_rfl) (by kernel_rfl) (by kernel_rfl) (fun _ _ _ h => h) (.inl ⟨by kernel_rfl, fun U hU => by obtain ⟨hq1, hh1⟩ := hU; have z0 : _ = some (Value.int .i64 base) := hq1.cell 0; have z1 : _ = some (Value.int .i64 cap) := hq1.cell 1; obtain ⟨z2, z3, z4, z5, z6, z7, z8⟩ := hh1.c7; go_simp⟩) hS0 ?_
  simp only [Act.put, List.setIfInBounds_toArray, List.set_cons_zero, List.set_cons_succ]
  refine take_at (i := 1) (d := 21) (v := .agg #[.int .i64 2, .int .i64 0, .int .i64 v, .int .i64 t, .int .i64 y, .bool wn, .int .i64 0]) rfl rfl (by kernel_rfl) (by kernel_rfl) (by kernel_rfl) (fun _ _ _ h => h) (.inl ⟨by kernel_rfl, fun U hU => by obtain ⟨hq1, hh1⟩ := hU; have z0 : _ = some (Value.int .i64 base) := hq1.cell 0; have z1 : _ = some (Value.int .i64 cap) := hq1.cell 1; obtain ⟨z2, z3, z4, z5, z6, z7, z8⟩ := hh1.c7; go_simp⟩) hS0 ?_
  simp only [Act.put, List.setIfInBounds_toArray, List.set_cons_zero, List.set_cons_succ]
  refine take_at (i := 3) (d := 23) (v := .pointer (some ⟨w.heap.size + 1, 4, none⟩)) rfl rfl (by kernel_rfl) (by kernel_rfl) (by kernel_rfl) (fun _ _ _ h => h) (.inl ⟨by kernel_rfl, fun U hU => by obtain ⟨hq1, hh1⟩ := hU; have z0 : _ = some (Value.int .i64 base) := hq1.cell 0; have z1 : _ = some (Value.int .i64 cap) := hq1.cell 1; obtain ⟨z2, z3, z4, z5, z6, z7, z8⟩ := hh1.c7; go_simp⟩) hS0 ?_
  simp only [Act.put, List.setIfInBounds_toArray, List.set_cons_zero, List.set_cons_succ]
  refine take_at (i := 4) (d := 24) (v := .int .i64 y) rfl rfl (by kernel_rfl) (by kernel_rfl) (by kernel_rfl) (fun _ _ _ h => h) (.inl ⟨by kernel_rfl, fun U hU => by obtain ⟨hq1, hh1⟩ := hU; have z0 : _ = some (Value.int .i64 base) := hq1.cell 0; have z1 : _ = some (Value.int .i64 cap) := hq1.cell 1; obtain ⟨z2, z3, z4, z5, z6, z7, z8⟩ := hh1.c7; go_simp⟩) hS0 ?_
  simp only [Act.put, List.setIfInBounds_toArray, List.set_cons_zero, List.set_cons_succ]
  refine wpAnyH_all (rs := [2]) (by kernel_rfl) (by simp) ?_
  intro i hi
  simp only [List.mem_cons, List.not_mem_nil, or_false] at hi
  subst hi
  unfold wpOp
  go_simp
  left
  refine (at7 2 0 v t y wn 0 1 _).mono ?_
  rintro e U1 ⟨rfl, b1⟩
  have hS1 := hS0.below b1
  have hR1 := hR0.below b1
  have hB1 := below3 hB0 b1
  have hO1 := hO0.below b1
  refine ⟨hS1, ?_⟩
  clear b1 hS0 hR0 hB0 hO0
  try simp only [Act.put, List.setIfInBounds_toArray, List.set_cons_zero, List.set_cons_succ]
  refine wpAnyH_all (rs := [5]) (by kernel_rfl) (by simp) ?_
  intro i hi
  simp only [List.mem_cons, List.not_mem_nil, or_false] at hi
  subst hi
  unfold wpOp
  go_simp
  left
  refine (count_any y 0 _).mono ?_
  rintro e U2 ⟨rfl, b1⟩
  have hS2 := hS1.below b1
  have hR2 := hR1.below b1
  have hB2 := below3 hB1 b1
  have hO2 := hO1.below b1
  refine ⟨hS2, ?_⟩
  clear b1 hS1 hR1 hB1 hO1
  try simp only [Act.put, List.setIfInBounds_toArray, List.set_cons_zero, List.set_cons_succ]
  refine take_at (i := 6) (d := 6) (v := .slice (some ⟨gA, 0, none⟩) ms.length c) rfl rfl (by kernel_rfl) (by kernel_rfl) (by kernel_rfl) (fun _ _ _ h => h) (.inl ⟨by kernel_rfl, fun U hU => by go_simp⟩) hS2 ?_
  simp only [Act.put, List.setIfInBounds_toArray, List.set_cons_zero, List.set_cons_succ]
  obtain ⟨q0, q1, q2, q3, q4, q5, q6⟩ := hR2.r.c7
  obtain ⟨f0, f1, f2, f3, f4, f5, f6⟩ := hR2.r.f7
  have lr := hR2.r.lt
  have B2 := Lib.hid (below_set7 hB2 (by omega : w.heap.size ≤ w.heap.size + 1 + 1) (.int .i64 2) (.int .i64 1) (.int .i64 v) (.int .i64 t) (.int .i64 y) (.bool wn) (.int .i64 0))
  have K2 := Lib.hid (bk_set7 hR2.r (.int .i64 2) (.int .i64 1) (.int .i64 v) (.int .i64 t) (.int .i64 y) (.bool wn) (.int .i64 0))
  have hS9 := Lib.hid (hS2.far7 (.int .i64 2) (.int .i64 1) (.int .i64 v) (.int .i64 t) (.int .i64 y) (.bool wn) (.int .i64 0))
  have O2 := Lib.hid (own_far7 hO2 (by omega : gA ≠ w.heap.size + 1 + 1) (.int .i64 2) (.int .i64 1) (.int .i64 v) (.int .i64 t) (.int .i64 y) (.bool wn) (.int .i64 0))
  unfold set7 at hS9
  refine wpAnyH_all (rs := [7]) (by kernel_rfl) (by simp) ?_
  intro i hi
  simp only [List.mem_cons, List.not_mem_nil, or_false] at hi
  subst hi
  unfold wpOp
  go_simp
  left
  refine ⟨hS9.out, ?_⟩
  clear q0 q1 q2 q3 q4 q5 q6 f0 f1 f2 f3 f4 f5 f6 lr
  refine take_at (i := 8) (d := 8) (v := .bool (decide (cntOk y 0))) rfl rfl (by kernel_rfl) (by kernel_rfl) (by kernel_rfl) (fun _ _ _ h => h) (.inl ⟨by kernel_rfl, fun U hU => by go_simp⟩) hS9.out ?_
  simp only [Act.put, List.setIfInBounds_toArray, List.set_cons_zero, List.set_cons_succ]
  refine wpAnyH_done (by kernel_rfl) ?_ _
  clear hS2 hR2 hB2 hO2
  go_wp2
  obtain ⟨r0, r1, r2, r3, r4, r5, r6⟩ := K2.out.c7
  unfold set7 at r0 r1 r2 r3 r4 r5 r6
  exact bodyPost_ret (v := .tuple #[.slice (some ⟨gA, 0, none⟩) ms.length c, .agg #[.int .i64 2, .int .i64 1, .int .i64 v, .int .i64 t, .int .i64 y, .bool wn, .int .i64 0], .bool (decide (cntOk y 0))]) (by simp [results, Try.results24, go_sem, r0, r1, r2, r3, r4, r5, r6]) rfl ⟨_, _, rfl, O2.out, B2.out⟩

set_option maxRecDepth 100000 in
set_option maxHeartbeats 2000000 in
theorem rpop1 (c base cap gA B : Nat) (ms : List Int) (v t b : Int) (wn : Bool) (y : Int) (w : World) (hBw : B ≤ w.heap.size) (hx : OwnI 2 w B (some ⟨gA, 0, none⟩) c ms) (hgA : gA < w.heap.size) (hlen : base + 2 + cap ≤ ms.length) (hbig : ms.length ≤ 65536) (hc1 : 1 ≤ cap) (hc2 : cap ≤ 1024) (hy : IntKind.i64.wrap (b - 1) = y) (fy : Fit y) :
    Calls Try.prog 24 #[.slice (some ⟨gA, 0, none⟩) ms.length c, .agg #[.int .i64 base, .int .i64 cap], .agg #[.int .i64 2, .int .i64 1, .int .i64 v, .int .i64 t, .int .i64 b, .bool wn, .int .i64 0]] w (RetMO B (ms.set (base + 1) y) ⟨2, 2, v, t, y, wn, 0⟩ (decide (-1 ≤ y)) w) := by
  have := hBw
  clear this
  have := hbig
  clear this
  have := hlen
  clear this
  have := hc1
  clear this
  have := hc2
  clear this
  have := hgA
  clear this
  have := hy
  clear this
  have := fy
  clear this
  have hwB : IntKind.i64.wrap ((base : Int) + 1) = (base : Int) + 1 := by rw [IntKind.wrap_i64]; omega
  have HX0 := Lib.hid hx
  have hi0 : base < ms.length := by omega
  have hi1 : base + 1 < ms.length := by omega
  obtain ⟨hS, hR, hB⟩ := three_is w base cap 2 1 v t b wn 0
  have HX := Lib.hid (hx.below hB)
  have a0 : _ = some (Value.int .i64 base) := hS.q.cell 0
  have a1 : _ = some (Value.int .i64 cap) := hS.q.cell 1
  obtain ⟨ah0, ah1, ah2, ah3, ah4, ah5, ah6⟩ := hS.h.c7
  have af4 := hS.h.frozen 4
  unfold three at af4 a0 a1 ah0 ah1 ah2 ah3 ah4 ah5 ah6
  clear hS hR hB HX
  obtain ⟨hS, hR, hB⟩ := three_is w base cap 2 1 v t y wn 0
  have HX := Lib.hid (hx.below hB)
  have b0 : _ = some (Value.int .i64 base) := hS.q.cell 0
  have b1 : _ = some (Value.int .i64 cap) := hS.q.cell 1
  obtain ⟨bh0, bh1, bh2, bh3, bh4, bh5, bh6⟩ := hS.h.c7
  have bf4 := hS.h.frozen 4
  unfold three at bf4 b0 b1 bh0 bh1 bh2 bh3 bh4 bh5 bh6
  clear hS hR hB HX
  clear hx
  go_enter Try.func24, Try.ntmps24
  go_wp2_with fail
  clear af4 a0 a1 ah0 ah1 ah2 ah3 ah4 ah5 ah6 bf4 b0 b1 bh0 bh1 bh2 bh3 bh4 bh5 bh6
  obtain ⟨hS0, hR0, hB0⟩ := three_is w base cap 2 1 v t y wn 0
  have hO0 := HX0.out.below hB0
  have hS0 := hS0.drew
  have hR0 := hR0.drew
  have hB0 := hB0.drew
  have hO0 := hO0.below (Below.refl _ _).drew
  refine wp_region_held (S := SBox w.heap.size base cap 2 1 v t y wn 0) (by kernel_rfl) ?_
  change wpAnyH _ _ _ _ _ _ _ _ (World.drew (three w base cap 2 1 v t y wn 0))
  generalize (three w base cap 2 1 v t y wn 0).drew = U0 at hS0 hR0 hB0 hO0 ⊢
  refine take_at (i := 0) (d := 33) (v := .slice (some ⟨gA, 0, none⟩) ms.length c) rfl rfl (by kernel_rfl) (by kernel_rfl) (by kernel_rfl) (fun _ _ _ h => h) (.inl ⟨by kernel_rfl, fun U hU => by obtain ⟨hq1, hh1⟩ := hU; have z0 : _ = some (Value.int .i64 base) := hq1.cell 0; have z1 : _ = some (Value.int .i64 cap) := hq1.cell 1; obtain ⟨z2, z3, z4, z5, z6, z7, z8⟩ := hh1.c7; go_simp⟩) hS0 ?_
  simp only [Act.put, List.setIfInBounds_toArray, List.set_cons_zero, List.set_cons_succ]
  refine take_at (i := 1) (d := 34) (v := .pointer (some ⟨w.heap.size, 0, none⟩)) rfl rfl (by kernel_rfl) (by kernel_rfl) (by kernel_rfl) (fun _ _ _ h => h) (.inl ⟨by kernel_rfl, fun U hU => by obtain ⟨hq1, hh1⟩ := hU; have z0 : _ = some (Value.int .i64 base) := hq1.cell 0; have z1 : _ = some (Value.int .i64 cap) := hq1.cell 1; obtain ⟨z2, z3, z4, z5, z6, z7, z8⟩ := hh1.c7; go_simp⟩) hS0 ?_
  simp only [Act.put, List.setIfInBounds_toArray, List.set_cons_zero, List.set_cons_succ]
  refine take_at (i := 2) (d := 35) (v := .int .i64 base) rfl rfl (by kernel_rfl) (by kernel_rfl) (by kernel_rfl) (fun _ _ _ h => h) (.inl ⟨by kernel_rfl, fun U hU => by obtain ⟨hq1, hh1⟩ := hU; have z0 : _ = some (Value.int .i64 base) := hq1.cell 0; have z1 : _ = some (Value.int .i64 cap) := hq1.cell 1; obtain ⟨z2, z3, z4, z5, z6, z7, z8⟩ := hh1.c7; go_simp⟩) hS0 ?_
  simp only [Act.put, List.setIfInBounds_toArray, List.set_cons_zero, List.set_cons_succ]
  refine take_at (i := 3) (d := 36) (v := .int .i64 ((base : Int) + 1)) rfl rfl (by kernel_rfl) (by kernel_rfl) (by kernel_rfl) (fun _ _ _ h => h) (.inl ⟨by kernel_rfl, fun U hU => by obtain ⟨hq1, hh1⟩ := hU; have z0 : _ = some (Value.int .i64 base) := hq1.cell 0; have z1 : _ = some (Value.int .i64 cap) := hq1.cell 1; obtain ⟨z2, z3, z4, z5, z6, z7, z8⟩ := hh1.c7; go_simp⟩) hS0 ?_
  simp only [Act.put, List.setIfInBounds_toArray, List.set_cons_zero, List.set_cons_succ]
  refine take_at (i := 4) (d := 37) (v := .pointer (some ⟨w.heap.size + 1, 4, none⟩)) rfl rfl (by kernel_rfl) (by kernel_rfl) (by kernel_rfl) (fun _ _ _ h => h) (.inl ⟨by kernel_rfl, fun U hU => by obtain ⟨hq1, hh1⟩ := hU; have z0 : _ = some (Value.int .i64 base) := hq1.cell 0; have z1 : _ = some (Value.int .i64 cap) := hq1.cell 1; obtain ⟨z2, z3, z4, z5, z6, z7, z8⟩ := hh1.c7; go_simp⟩) hS0 ?_
  simp only [Act.put, List.setIfInBounds_toArray, List.set_cons_zero, List.set_cons_succ]
  refine take_at (i := 5) (d := 38) (v := .int .i64 y) rfl rfl (by kernel_rfl) (by kernel_rfl) (by kernel_rfl) (fun _ _ _ h => h) (.inl ⟨by kernel_rfl, fun U hU => by obtain ⟨hq1, hh1⟩ := hU; have z0 : _ = some (Value.int .i64 base) := hq1.cell 0; have z1 : _ = some (Value.int .i64 cap) := hq1.cell 1; obtain ⟨z2, z3, z4, z5, z6, z7, z8⟩ := hh1.c7; go_simp⟩) hS0 ?_
  simp only [Act.put, List.setIfInBounds_toArray, List.set_cons_zero, List.set_cons_succ]
  refine take_at (i := 7) (d := 40) (v := .agg #[.int .i64 2, .int .i64 1, .int .i64 v, .int .i64 t, .int .i64 y, .bool wn, .int .i64 0]) rfl rfl (by kernel_rfl) (by kernel_rfl) (by kernel_rfl) (fun _ _ _ h => h) (.inl ⟨by kernel_rfl, fun U hU => by obtain ⟨hq1, hh1⟩ := hU; have z0 : _ = some (Value.int .i64 base) := hq1.cell 0; have z1 : _ = some (Value.int .i64 cap) := hq1.cell 1; obtain ⟨z2, z3, z4, z5, z6, z7, z8⟩ := hh1.c7; go_simp⟩) hS0 ?_
  simp only [Act.put, List.setIfInBounds_toArray, List.set_cons_zero, List.set_cons_succ]
  refine take_at (i := 9) (d := 42) (v := .pointer (some ⟨w.heap.size + 1, 4, none⟩)) rfl rfl (by kernel_rfl) (by kernel_rfl) (by kernel_rfl) (fun _ _ _ h => h) (.inl ⟨by kernel_rfl, fun U hU => by obtain ⟨hq1, hh1⟩ := hU; have z0 : _ = some (Value.int .i64 base) := hq1.cell 0; have z1 : _ = some (Value.int .i64 cap) := hq1.cell 1; obtain ⟨z2, z3, z4, z5, z6, z7, z8⟩ := hh1.c7; go_simp⟩) hS0 ?_
  simp only [Act.put, List.setIfInBounds_toArray, List.set_cons_zero, List.set_cons_succ]
  refine take_at (i := 10) (d := 43) (v := .int .i64 y) rfl rfl (by kernel_rfl) (by kernel_rfl) (by kernel_rfl) (fun _ _ _ h => h) (.inl ⟨by kernel_rfl, fun U hU => by obtain ⟨hq1, hh1⟩ := hU; have z0 : _ = some (Value.int .i64 base) := hq1.cell 0; have z1 : _ = some (Value.int .i64 cap) := hq1.cell 1; obtain ⟨z2, z3, z4, z5, z6, z7, z8⟩ := hh1.c7; go_simp⟩) hS0 ?_
  simp only [Act.put, List.setIfInBounds_toArray, List.set_cons_zero, List.set_cons_succ]
  refine take_at (i := 11) (d := 44) (v := .bool (decide (-1 ≤ y))) rfl rfl (by kernel_rfl) (by kernel_rfl) (by kernel_rfl) (fun _ _ _ h => h) (.inl ⟨by kernel_rfl, fun U hU => by obtain ⟨hq1, hh1⟩ := hU; have z0 : _ = some (Value.int .i64 base) := hq1.cell 0; have z1 : _ = some (Value.int .i64 cap) := hq1.cell 1; obtain ⟨z2, z3, z4, z5, z6, z7, z8⟩ := hh1.c7; go_simp⟩) hS0 ?_
  simp only [Act.put, List.setIfInBounds_toArray, List.set_cons_zero, List.set_cons_succ]
  refine wpAnyH_all (rs := [6]) (by kernel_rfl) (by simp) ?_
  intro i hi
  simp only [List.mem_cons, List.not_mem_nil, or_false] at hi
  subst hi
  unfold wpOp
  go_simp
  left
  refine (with_at _ _ _ ms _ hO0.ints (base + 1) _ (by omega) (by omega) y fy).mono ?_
  rintro e U1 ⟨A1, c1, rfl, o1, b1⟩
  have hS1 := hS0.below b1
  have hR1 := hR0.below b1
  have hB1 := below3 hB0 b1
  obtain ⟨g1, rfl, hg1, -, -, -⟩ := o1.form (by rw [List.length_set]; omega)
  have hO1 := o1.base (show B ≤ U0.heap.size by have := hR0.r.lt; omega)
  have hgn : g1 ≠ w.heap.size + 1 + 1 := (by have := hR0.r.lt; omega)
  refine ⟨hS1, ?_⟩
  clear b1 hS0 hR0 hB0 hO0
  try simp only [Act.put, List.setIfInBounds_toArray, List.set_cons_zero, List.set_cons_succ]
  refine wpAnyH_all (rs := [8]) (by kernel_rfl) (by simp) ?_
  intro i hi
  simp only [List.mem_cons, List.not_mem_nil, or_false] at hi
  subst hi
  unfold wpOp
  go_simp
  left
  refine (at7 2 1 v t y wn 0 2 _).mono ?_
  rintro e U2 ⟨rfl, b1⟩
  have hS2 := hS1.below b1
  have hR2 := hR1.below b1
  have hB2 := below3 hB1 b1
  have hO2 := hO1.below b1
  refine ⟨hS2, ?_⟩
  clear b1 hS1 hR1 hB1 hO1
  try simp only [Act.put, List.setIfInBounds_toArray, List.set_cons_zero, List.set_cons_succ]
  refine take_at (i := 12) (d := 6) (v := .slice (some ⟨g1, 0, none⟩) (ms.set (base + 1) y).length c1) rfl rfl (by kernel_rfl) (by kernel_rfl) (by kernel_rfl) (fun _ _ _ h => h) (.inl ⟨by kernel_rfl, fun U hU => by go_simp⟩) hS2 ?_
  simp only [Act.put, List.setIfInBounds_toArray, List.set_cons_zero, List.set_cons_succ]
  obtain ⟨q0, q1, q2, q3, q4, q5, q6⟩ := hR2.r.c7
  obtain ⟨f0, f1, f2, f3, f4, f5, f6⟩ := hR2.r.f7
  have lr := hR2.r.lt
  have B2 := Lib.hid (below_set7 hB2 (by omega : w.heap.size ≤ w.heap.size + 1 + 1) (.int .i64 2) (.int .i64 2) (.int .i64 v) (.int .i64 t) (.int .i64 y) (.bool wn) (.int .i64 0))
  have K2 := Lib.hid (bk_set7 hR2.r (.int .i64 2) (.int .i64 2) (.int .i64 v) (.int .i64 t) (.int .i64 y) (.bool wn) (.int .i64 0))
  have hS9 := Lib.hid (hS2.far7 (.int .i64 2) (.int .i64 2) (.int .i64 v) (.int .i64 t) (.int .i64 y) (.bool wn) (.int .i64 0))
  have O2 := Lib.hid (own_far7 hO2 hgn (.int .i64 2) (.int .i64 2) (.int .i64 v) (.int .i64 t) (.int .i64 y) (.bool wn) (.int .i64 0))
  unfold set7 at hS9
  refine wpAnyH_all (rs := [13]) (by kernel_rfl) (by simp) ?_
  intro i hi
  simp only [List.mem_cons, List.not_mem_nil, or_false] at hi
  subst hi
  unfold wpOp
  go_simp
  left
  refine ⟨hS9.out, ?_⟩
  clear q0 q1 q2 q3 q4 q5 q6 f0 f1 f2 f3 f4 f5 f6 lr
  refine take_at (i := 14) (d := 8) (v := .bool (decide (-1 ≤ y))) rfl rfl (by kernel_rfl) (by kernel_rfl) (by kernel_rfl) (fun _ _ _ h => h) (.inl ⟨by kernel_rfl, fun U hU => by go_simp⟩) hS9.out ?_
  simp only [Act.put, List.setIfInBounds_toArray, List.set_cons_zero, List.set_cons_succ]
  refine wpAnyH_done (by kernel_rfl) ?_ _
  clear hS2 hR2 hB2 hO2
  go_wp2
  obtain ⟨r0, r1, r2, r3, r4, r5, r6⟩ := K2.out.c7
  unfold set7 at r0 r1 r2 r3 r4 r5 r6
  exact bodyPost_ret (v := .tuple #[.slice (some ⟨g1, 0, none⟩) (ms.set (base + 1) y).length c1, .agg #[.int .i64 2, .int .i64 2, .int .i64 v, .int .i64 t, .int .i64 y, .bool wn, .int .i64 0], .bool (decide (-1 ≤ y))]) (by simp [results, Try.results24, go_sem, r0, r1, r2, r3, r4, r5, r6]) rfl ⟨_, _, rfl, O2.out, B2.out⟩

set_option maxRecDepth 100000 in
set_option maxHeartbeats 2000000 in
theorem rpop2a (c base cap gA B : Nat) (ms : List Int) (v t b : Int) (wn : Bool) (y : Int) (w : World) (hBw : B ≤ w.heap.size) (hx : OwnI 2 w B (some ⟨gA, 0, none⟩) c ms) (hgA : gA < w.heap.size) (hlen : base + 2 + cap ≤ ms.length) (hbig : ms.length ≤ 65536) (hc1 : 1 ≤ cap) (hc2 : cap ≤ 1024) (hy : nth ms (base) = y) (fy : Fit y) (hf : b < y) :
    Calls Try.prog 24 #[.slice (some ⟨gA, 0, none⟩) ms.length c, .agg #[.int .i64 base, .int .i64 cap], .agg #[.int .i64 2, .int .i64 2, .int .i64 v, .int .i64 t, .int .i64 b, .bool wn, .int .i64 0]] w (RetMO B ms ⟨2, 3, v, y, b, wn, 0⟩ (decide (cntOk y 0)) w) := by
  have := hBw
  clear this
  have := hbig
  clear this
  have := hlen
  clear this
  have := hc1
  clear this
  have := hc2
  clear this
  have := hgA
  clear this
  have := hy
  clear this
  have := fy
  clear this
  have := hf
  clear this
  have hwB : IntKind.i64.wrap ((base : Int) + 1) = (base : Int) + 1 := by rw [IntKind.wrap_i64]; omega
  have HX0 := Lib.hid hx
  have hi0 : base < ms.length := by omega
  have hi1 : base + 1 < ms.length := by omega
  obtain ⟨hS, hR, hB⟩ := three_is w base cap 2 2 v t b wn 0
  have HX := Lib.hid (hx.below hB)
  have a0 : _ = some (Value.int .i64 base) := hS.q.cell 0
  have a1 : _ = some (Value.int .i64 cap) := hS.q.cell 1
  obtain ⟨ah0, ah1, ah2, ah3, ah4, ah5, ah6⟩ := hS.h.c7
  have af3 := hS.h.frozen 3
  have am0 := (HX.out.at_ (j := base) (by omega)).1; rw [hy] at am0
  unfold three at af3 am0 a0 a1 ah0 ah1 ah2 ah3 ah4 ah5 ah6
  clear hS hR hB HX
  obtain ⟨hS, hR, hB⟩ := three_is w base cap 2 2 v y b wn 0
  have HX := Lib.hid (hx.below hB)
  have b0 : _ = some (Value.int .i64 base) := hS.q.cell 0
  have b1 : _ = some (Value.int .i64 cap) := hS.q.cell 1
  obtain ⟨bh0, bh1, bh2, bh3, bh4, bh5, bh6⟩ := hS.h.c7
  have bf3 := hS.h.frozen 3
  have bm0 := (HX.out.at_ (j := base) (by omega)).1; rw [hy] at bm0
  unfold three at bf3 bm0 b0 b1 bh0 bh1 bh2 bh3 bh4 bh5 bh6
  clear hS hR hB HX
  clear hx
  go_enter Try.func24, Try.ntmps24
  go_wp2_with fail
  clear af3 am0 a0 a1 ah0 ah1 ah2 ah3 ah4 ah5 ah6 bf3 bm0 b0 b1 bh0 bh1 bh2 bh3 bh4 bh5 bh6
  obtain ⟨hS0, hR0, hB0⟩ := three_is w base cap 2 2 v y b wn 0
  have hO0 := HX0.out.below hB0
  have hS0 := hS0.drew
  have hR0 := hR0.drew
  have hB0 := hB0.drew
  have hO0 := hO0.below (Below.refl _ _).drew
  refine wp_region_held (S := SBox w.heap.size base cap 2 2 v y b wn 0) (by kernel_rfl) ?_
  change wpAnyH _ _ _ _ _ _ _ _ (World.drew (three w base cap 2 2 v y b wn 0))
  generalize (three w base cap 2 2 v y b wn 0).drew = U0 at hS0 hR0 hB0 hO0 ⊢
  refine take_at (i := 0) (d := 59) (v := .slice (some ⟨gA, 0, none⟩) ms.length c) rfl rfl (by kernel_rfl) (by kernel_rfl) (by kernel_rfl) (fun _ _ _ h => h) (.inl ⟨by kernel_rfl, fun U hU => by obtain ⟨hq1, hh1⟩ := hU; have z0 : _ = some (Value.int .i64 base) := hq1.cell 0; have z1 : _ = some (Value.int .i64 cap) := hq1.cell 1; obtain ⟨z2, z3, z4, z5, z6, z7, z8⟩ := hh1.c7; go_simp⟩) hS0 ?_
  simp only [Act.put, List.setIfInBounds_toArray, List.set_cons_zero, List.set_cons_succ]
  refine take_at (i := 1) (d := 60) (v := .agg #[.int .i64 2, .int .i64 2, .int .i64 v, .int .i64 y, .int .i64 b, .bool wn, .int .i64 0]) rfl rfl (by kernel_rfl) (by kernel_rfl) (by kernel_rfl) (fun _ _ _ h => h) (.inl ⟨by kernel_rfl, fun U hU => by obtain ⟨hq1, hh1⟩ := hU; have z0 : _ = some (Value.int .i64 base) := hq1.cell 0; have z1 : _ = some (Value.int .i64 cap) := hq1.cell 1; obtain ⟨z2, z3, z4, z5, z6, z7, z8⟩ := hh1.c7; go_simp⟩) hS0 ?_
  simp only [Act.put, List.setIfInBounds_toArray, List.set_cons_zero, List.set_cons_succ]
  refine take_at (i := 3) (d := 62) (v := .pointer (some ⟨w.heap.size + 1, 3, none⟩)) rfl rfl (by kernel_rfl) (by kernel_rfl) (by kernel_rfl) (fun _ _ _ h => h) (.inl ⟨by kernel_rfl, fun U hU => by obtain ⟨hq1, hh1⟩ := hU; have z0 : _ = some (Value.int .i64 base) := hq1.cell 0; have z1 : _ = some (Value.int .i64 cap) := hq1.cell 1; obtain ⟨z2, z3, z4, z5, z6, z7, z8⟩ := hh1.c7; go_simp⟩) hS0 ?_
  simp only [Act.put, List.setIfInBounds_toArray, List.set_cons_zero, List.set_cons_succ]
  refine take_at (i := 4) (d := 63) (v := .int .i64 y) rfl rfl (by kernel_rfl) (by kernel_rfl) (by kernel_rfl) (fun _ _ _ h => h) (.inl ⟨by kernel_rfl, fun U hU => by obtain ⟨hq1, hh1⟩ := hU; have z0 : _ = some (Value.int .i64 base) := hq1.cell 0; have z1 : _ = some (Value.int .i64 cap) := hq1.cell 1; obtain ⟨z2, z3, z4, z5, z6, z7, z8⟩ := hh1.c7; go_simp⟩) hS0 ?_
  simp only [Act.put, List.setIfInBounds_toArray, List.set_cons_zero, List.set_cons_succ]
  refine wpAnyH_all (rs := [2]) (by kernel_rfl) (by simp) ?_
  intro i hi
  simp only [List.mem_cons, List.not_mem_nil, or_false] at hi
  subst hi
  unfold wpOp
  go_simp
  left
  refine (at7 2 2 v y b wn 0 3 _).mono ?_
  rintro e U1 ⟨rfl, b1⟩
  have hS1 := hS0.below b1
  have hR1 := hR0.below b1
  have hB1 := below3 hB0 b1
  have hO1 := hO0.below b1
  refine ⟨hS1, ?_⟩
  clear b1 hS0 hR0 hB0 hO0
  try simp only [Act.put, List.setIfInBounds_toArray, List.set_cons_zero, List.set_cons_succ]
  refine wpAnyH_all (rs := [5]) (by kernel_rfl) (by simp) ?_
  intro i hi
  simp only [List.mem_cons, List.not_mem_nil, or_false] at hi
  subst hi
  unfold wpOp
  go_simp
  left
  refine (count_any y 0 _).mono ?_
  rintro e U2 ⟨rfl, b1⟩
  have hS2 := hS1.below b1
  have hR2 := hR1.below b1
  have hB2 := below3 hB1 b1
  have hO2 := hO1.below b1
  refine ⟨hS2, ?_⟩
  clear b1 hS1 hR1 hB1 hO1
  try simp only [Act.put, List.setIfInBounds_toArray, List.set_cons_zero, List.set_cons_succ]
  refine take_at (i := 6) (d := 6) (v := .slice (some ⟨gA, 0, none⟩) ms.length c) rfl rfl (by kernel_rfl) (by kernel_rfl) (by kernel_rfl) (fun _ _ _ h => h) (.inl ⟨by kernel_rfl, fun U hU => by go_simp⟩) hS2 ?_
  simp only [Act.put, List.setIfInBounds_toArray, List.set_cons_zero, List.set_cons_succ]
  obtain ⟨q0, q1, q2, q3, q4, q5, q6⟩ := hR2.r.c7
  obtain ⟨f0, f1, f2, f3, f4, f5, f6⟩ := hR2.r.f7
  have lr := hR2.r.lt
  have B2 := Lib.hid (below_set7 hB2 (by omega : w.heap.size ≤ w.heap.size + 1 + 1) (.int .i64 2) (.int .i64 3) (.int .i64 v) (.int .i64 y) (.int .i64 b) (.bool wn) (.int .i64 0))
  have K2 := Lib.hid (bk_set7 hR2.r (.int .i64 2) (.int .i64 3) (.int .i64 v) (.int .i64 y) (.int .i64 b) (.bool wn) (.int .i64 0))
  have hS9 := Lib.hid (hS2.far7 (.int .i64 2) (.int .i64 3) (.int .i64 v) (.int .i64 y) (.int .i64 b) (.bool wn) (.int .i64 0))
  have O2 := Lib.hid (own_far7 hO2 (by omega : gA ≠ w.heap.size + 1 + 1) (.int .i64 2) (.int .i64 3) (.int .i64 v) (.int .i64 y) (.int .i64 b) (.bool wn) (.int .i64 0))
  unfold set7 at hS9
  refine wpAnyH_all (rs := [7]) (by kernel_rfl) (by simp) ?_
  intro i hi
  simp only [List.mem_cons, List.not_mem_nil, or_false] at hi
  subst hi
  unfold wpOp
  go_simp
  left
  refine ⟨hS9.out, ?_⟩
  clear q0 q1 q2 q3 q4 q5 q6 f0 f1 f2 f3 f4 f5 f6 lr
  refine take_at (i := 8) (d := 8) (v := .bool (decide (cntOk y 0))) rfl rfl (by kernel_rfl) (by kernel_rfl) (by kernel_rfl) (fun _ _ _ h => h) (.inl ⟨by kernel_rfl, fun U hU => by go_simp⟩) hS9.out ?_
  simp only [Act.put, List.setIfInBounds_toArray, List.set_cons_zero, List.set_cons_succ]
  refine wpAnyH_done (by kernel_rfl) ?_ _
  clear hS2 hR2 hB2 hO2
  go_wp2
  obtain ⟨r0, r1, r2, r3, r4, r5, r6⟩ := K2.out.c7
  unfold set7 at r0 r1 r2 r3 r4 r5 r6
  exact bodyPost_ret (v := .tuple #[.slice (some ⟨gA, 0, none⟩) ms.length c, .agg #[.int .i64 2, .int .i64 3, .int .i64 v, .int .i64 y, .int .i64 b, .bool wn, .int .i64 0], .bool (decide (cntOk y 0))]) (by simp [results, Try.results24, go_sem, r0, r1, r2, r3, r4, r5, r6]) rfl ⟨_, _, rfl, O2.out, B2.out⟩

set_option maxRecDepth 100000 in
set_option maxHeartbeats 2000000 in
theorem rpop2b (c base cap gA B : Nat) (ms : List Int) (v t b : Int) (wn : Bool) (y : Int) (w : World) (hBw : B ≤ w.heap.size) (hx : OwnI 2 w B (some ⟨gA, 0, none⟩) c ms) (hgA : gA < w.heap.size) (hlen : base + 2 + cap ≤ ms.length) (hbig : ms.length ≤ 65536) (hc1 : 1 ≤ cap) (hc2 : cap ≤ 1024) (hy : nth ms (base) = y) (fy : Fit y) (hf : ¬ b < y) :
    Calls Try.prog 24 #[.slice (some ⟨gA, 0, none⟩) ms.length c, .agg #[.int .i64 base, .int .i64 cap], .agg #[.int .i64 2, .int .i64 2, .int .i64 v, .int .i64 t, .int .i64 b, .bool wn, .int .i64 0]] w (RetMO B ms ⟨2, 4, v, y, b, wn, 0⟩ (decide (cntOk y 0)) w) := by
  have := hBw
  clear this
  have := hbig
  clear this
  have := hlen
  clear this
  have := hc1
  clear this
  have := hc2
  clear this
  have := hgA
  clear this
  have := hy
  clear this
  have := fy
  clear this
  have := hf
  clear this
  have hwB : IntKind.i64.wrap ((base : Int) + 1) = (base : Int) + 1 := by rw [IntKind.wrap_i64]; omega
  have HX0 := Lib.hid hx
  have hi0 : base < ms.length := by omega
  have hi1 : base + 1 < ms.length := by omega
  obtain ⟨hS, hR, hB⟩ := three_is w base cap 2 2 v t b wn 0
  have HX := Lib.hid (hx.below hB)
  have a0 : _ = some (Value.int .i64 base) := hS.q.cell 0
  have a1 : _ = some (Value.int .i64 cap) := hS.q.cell 1
  obtain ⟨ah0, ah1, ah2, ah3, ah4, ah5, ah6⟩ := hS.h.c7
  have af3 := hS.h.frozen 3
  have am0 := (HX.out.at_ (j := base) (by omega)).1; rw [hy] at am0
  unfold three at af3 am0 a0 a1 ah0 ah1 ah2 ah3 ah4 ah5 ah6
  clear hS hR hB HX
  obtain ⟨hS, hR, hB⟩ := three_is w base cap 2 2 v y b wn 0
  have HX := Lib.hid (hx.below hB)
  have b0 : _ = some (Value.int .i64 base) := hS.q.cell 0
  have b1 : _ = some (Value.int .i64 cap) := hS.q.cell 1
  obtain ⟨bh0, bh1, bh2, bh3, bh4, bh5, bh6⟩ := hS.h.c7
  have bf3 := hS.h.frozen 3
  have bm0 := (HX.out.at_ (j := base) (by omega)).1; rw [hy] at bm0
  unfold three at bf3 bm0 b0 b1 bh0 bh1 bh2 bh3 bh4 bh5 bh6
  clear hS hR hB HX
  clear hx
  go_enter Try.func24, Try.ntmps24
  go_wp2_with fail
  clear af3 am0 a0 a1 ah0 ah1 ah2 ah3 ah4 ah5 ah6 bf3 bm0 b0 b1 bh0 bh1 bh2 bh3 bh4 bh5 bh6
  obtain ⟨hS0, hR0, hB0⟩ := three_is w base cap 2 2 v y b wn 0
  have hO0 := HX0.out.below hB0
  have hS0 := hS0.drew
  have hR0 := hR0.drew
  have hB0 := hB0.drew
  have hO0 := hO0.below (Below.refl _ _).drew
  refine wp_region_held (S := SBox w.heap.size base cap 2 2 v y b wn 0) (by kernel_rfl) ?_
  change wpAnyH _ _ _ _ _ _ _ _ (World.drew (three w base cap 2 2 v y b wn 0))
  generalize (three w base cap 2 2 v y b wn 0).drew = U0 at hS0 hR0 hB0 hO0 ⊢
  refine take_at (i := 0) (d := 65) (v := .slice (some ⟨gA, 0, none⟩) ms.length c) rfl rfl (by kernel_rfl) (by kernel_rfl) (by kernel_rfl) (fun _ _ _ h => h) (.inl ⟨by kernel_rfl, fun U hU => by obtain ⟨hq1, hh1⟩ := hU; have z0 : _ = some (Value.int .i64 base) := hq1.cell 0; have z1 : _ = some (Value.int .i64 cap) := hq1.cell 1; obtain ⟨z2, z3, z4, z5, z6, z7, z8⟩ := hh1.c7; go_simp⟩) hS0 ?_
  simp only [Act.put, List.setIfInBounds_toArray, List.set_cons_zero, List.set_cons_succ]
  refine take_at (i := 1) (d := 66) (v := .agg #[.int .i64 2, .int .i64 2, .int .i64 v, .int .i64 y, .int .i64 b, .bool wn, .int .i64 0]) rfl rfl (by kernel_rfl) (by kernel_rfl) (by kernel_rfl) (fun _ _ _ h => h) (.inl ⟨by kernel_rfl, fun U hU => by obtain ⟨hq1, hh1⟩ := hU; have z0 : _ = some (Value.int .i64 base) := hq1.cell 0; have z1 : _ = some (Value.int .i64 cap) := hq1.cell 1; obtain ⟨z2, z3, z4, z5, z6, z7, z8⟩ := hh1.c7; go_simp⟩) hS0 ?_
  simp only [Act.put, List.setIfInBounds_toArray, List.set_cons_zero, List.set_cons_succ]
  refine take_at (i := 3) (d := 68) (v := .pointer (some ⟨w.heap.size + 1, 3, none⟩)) rfl rfl (by kernel_rfl) (by kernel_rfl) (by kernel_rfl) (fun _ _ _ h => h) (.inl ⟨by kernel_rfl, fun U hU => by obtain ⟨hq1, hh1⟩ := hU; have z0 : _ = some (Value.int .i64 base) := hq1.cell 0; have z1 : _ = some (Value.int .i64 cap) := hq1.cell 1; obtain ⟨z2, z3, z4, z5, z6, z7, z8⟩ := hh1.c7; go_simp⟩) hS0 ?_
  simp only [Act.put, List.setIfInBounds_toArray, List.set_cons_zero, List.set_cons_succ]
  refine take_at (i := 4) (d := 69) (v := .int .i64 y) rfl rfl (by kernel_rfl) (by kernel_rfl) (by kernel_rfl) (fun _ _ _ h => h) (.inl ⟨by kernel_rfl, fun U hU => by obtain ⟨hq1, hh1⟩ := hU; have z0 : _ = some (Value.int .i64 base) := hq1.cell 0; have z1 : _ = some (Value.int .i64 cap) := hq1.cell 1; obtain ⟨z2, z3, z4, z5, z6, z7, z8⟩ := hh1.c7; go_simp⟩) hS0 ?_
  simp only [Act.put, List.setIfInBounds_toArray, List.set_cons_zero, List.set_cons_succ]
  refine wpAnyH_all (rs := [2]) (by kernel_rfl) (by simp) ?_
  intro i hi
  simp only [List.mem_cons, List.not_mem_nil, or_false] at hi
  subst hi
  unfold wpOp
  go_simp
  left
  refine (at7 2 2 v y b wn 0 4 _).mono ?_
  rintro e U1 ⟨rfl, b1⟩
  have hS1 := hS0.below b1
  have hR1 := hR0.below b1
  have hB1 := below3 hB0 b1
  have hO1 := hO0.below b1
  refine ⟨hS1, ?_⟩
  clear b1 hS0 hR0 hB0 hO0
  try simp only [Act.put, List.setIfInBounds_toArray, List.set_cons_zero, List.set_cons_succ]
  refine wpAnyH_all (rs := [5]) (by kernel_rfl) (by simp) ?_
  intro i hi
  simp only [List.mem_cons, List.not_mem_nil, or_false] at hi
  subst hi
  unfold wpOp
  go_simp
  left
  refine (count_any y 0 _).mono ?_
  rintro e U2 ⟨rfl, b1⟩
  have hS2 := hS1.below b1
  have hR2 := hR1.below b1
  have hB2 := below3 hB1 b1
  have hO2 := hO1.below b1
  refine ⟨hS2, ?_⟩
  clear b1 hS1 hR1 hB1 hO1
  try simp only [Act.put, List.setIfInBounds_toArray, List.set_cons_zero, List.set_cons_succ]
  refine take_at (i := 6) (d := 6) (v := .slice (some ⟨gA, 0, none⟩) ms.length c) rfl rfl (by kernel_rfl) (by kernel_rfl) (by kernel_rfl) (fun _ _ _ h => h) (.inl ⟨by kernel_rfl, fun U hU => by go_simp⟩) hS2 ?_
  simp only [Act.put, List.setIfInBounds_toArray, List.set_cons_zero, List.set_cons_succ]
  obtain ⟨q0, q1, q2, q3, q4, q5, q6⟩ := hR2.r.c7
  obtain ⟨f0, f1, f2, f3, f4, f5, f6⟩ := hR2.r.f7
  have lr := hR2.r.lt
  have B2 := Lib.hid (below_set7 hB2 (by omega : w.heap.size ≤ w.heap.size + 1 + 1) (.int .i64 2) (.int .i64 4) (.int .i64 v) (.int .i64 y) (.int .i64 b) (.bool wn) (.int .i64 0))
  have K2 := Lib.hid (bk_set7 hR2.r (.int .i64 2) (.int .i64 4) (.int .i64 v) (.int .i64 y) (.int .i64 b) (.bool wn) (.int .i64 0))
  have hS9 := Lib.hid (hS2.far7 (.int .i64 2) (.int .i64 4) (.int .i64 v) (.int .i64 y) (.int .i64 b) (.bool wn) (.int .i64 0))
  have O2 := Lib.hid (own_far7 hO2 (by omega : gA ≠ w.heap.size + 1 + 1) (.int .i64 2) (.int .i64 4) (.int .i64 v) (.int .i64 y) (.int .i64 b) (.bool wn) (.int .i64 0))
  unfold set7 at hS9
  refine wpAnyH_all (rs := [7]) (by kernel_rfl) (by simp) ?_
  intro i hi
  simp only [List.mem_cons, List.not_mem_nil, or_false] at hi
  subst hi
  unfold wpOp
  go_simp
  left
  refine ⟨hS9.out, ?_⟩
  clear q0 q1 q2 q3 q4 q5 q6 f0 f1 f2 f3 f4 f5 f6 lr
  refine take_at (i := 8) (d := 8) (v := .bool (decide (cntOk y 0))) rfl rfl (by kernel_rfl) (by kernel_rfl) (by kernel_rfl) (fun _ _ _ h => h) (.inl ⟨by kernel_rfl, fun U hU => by go_simp⟩) hS9.out ?_
  simp only [Act.put, List.setIfInBounds_toArray, List.set_cons_zero, List.set_cons_succ]
  refine wpAnyH_done (by kernel_rfl) ?_ _
  clear hS2 hR2 hB2 hO2
  go_wp2
  obtain ⟨r0, r1, r2, r3, r4, r5, r6⟩ := K2.out.c7
  unfold set7 at r0 r1 r2 r3 r4 r5 r6
  exact bodyPost_ret (v := .tuple #[.slice (some ⟨gA, 0, none⟩) ms.length c, .agg #[.int .i64 2, .int .i64 4, .int .i64 v, .int .i64 y, .int .i64 b, .bool wn, .int .i64 0], .bool (decide (cntOk y 0))]) (by simp [results, Try.results24, go_sem, r0, r1, r2, r3, r4, r5, r6]) rfl ⟨_, _, rfl, O2.out, B2.out⟩

set_option maxRecDepth 100000 in
set_option maxHeartbeats 2000000 in
theorem rpop3n (c base cap gA B : Nat) (ms : List Int) (v t b : Int) (wn : Bool) (w : World) (hBw : B ≤ w.heap.size) (hx : OwnI 2 w B (some ⟨gA, 0, none⟩) c ms) (hgA : gA < w.heap.size) (hlen : base + 2 + cap ≤ ms.length) (hbig : ms.length ≤ 65536) (hc1 : 1 ≤ cap) (hc2 : cap ≤ 1024) (htn : t < 0) :
    Calls Try.prog 24 #[.slice (some ⟨gA, 0, none⟩) ms.length c, .agg #[.int .i64 base, .int .i64 cap], .agg #[.int .i64 2, .int .i64 3, .int .i64 v, .int .i64 t, .int .i64 b, .bool wn, .int .i64 0]] w (RetMO B ([]) ⟨2, 3, v, t, b, wn, 0⟩ false w) := by
  have := hBw
  clear this
  have := hbig
  clear this
  have := hlen
  clear this
  have := hc1
  clear this
  have := hc2
  clear this
  have := hgA
  clear this
  have := htn
  clear this
  have hwB : IntKind.i64.wrap ((base : Int) + 1) = (base : Int) + 1 := by rw [IntKind.wrap_i64]; omega
  have HX0 := Lib.hid hx
  have hi0 : base < ms.length := by omega
  have hi1 : base + 1 < ms.length := by omega
  obtain ⟨hS, hR, hB⟩ := three_is w base cap 2 3 v t b wn 0
  have HX := Lib.hid (hx.below hB)
  have a0 : _ = some (Value.int .i64 base) := hS.q.cell 0
  have a1 : _ = some (Value.int .i64 cap) := hS.q.cell 1
  obtain ⟨ah0, ah1, ah2, ah3, ah4, ah5, ah6⟩ := hS.h.c7
  unfold three at a0 a1 ah0 ah1 ah2 ah3 ah4 ah5 ah6
  clear hS hR hB HX
  clear hx
  go_enter Try.func24, Try.ntmps24
  go_wp2_with fail
  clear a0 a1 ah0 ah1 ah2 ah3 ah4 ah5 ah6
  obtain ⟨hS0, hR0, hB0⟩ := three_is w base cap 2 3 v t b wn 0
  have hO0 := HX0.out.below hB0
  have hS0 := hS0.drew
  have hR0 := hR0.drew
  have hB0 := hB0.drew
  have hO0 := hO0.below (Below.refl _ _).drew
  refine wp_region_held (S := SBox w.heap.size base cap 2 3 v t b wn 0) (by kernel_rfl) ?_
  change wpAnyH _ _ _ _ _ _ _ _ (World.drew (three w base cap 2 3 v t b wn 0))
  generalize (three w base cap 2 3 v t b wn 0).drew = U0 at hS0 hR0 hB0 hO0 ⊢
  refine take_at (i := 0) (d := 79) (v := .agg #[.int .i64 2, .int .i64 3, .int .i64 v, .int .i64 t, .int .i64 b, .bool wn, .int .i64 0]) rfl rfl (by kernel_rfl) (by kernel_rfl) (by kernel_rfl) (fun _ _ _ h => h) (.inl ⟨by kernel_rfl, fun U hU => by obtain ⟨hq1, hh1⟩ := hU; have z0 : _ = some (Value.int .i64 base) := hq1.cell 0; have z1 : _ = some (Value.int .i64 cap) := hq1.cell 1; obtain ⟨z2, z3, z4, z5, z6, z7, z8⟩ := hh1.c7; go_simp⟩) hS0 ?_
  simp only [Act.put, List.setIfInBounds_toArray, List.set_cons_zero, List.set_cons_succ]
  refine take_at (i := 1) (d := 6) (v := .slice none 0 0) rfl rfl (by kernel_rfl) (by kernel_rfl) (by kernel_rfl) (fun _ _ _ h => h) (.inl ⟨by kernel_rfl, fun U hU => by go_simp⟩) hS0 ?_
  simp only [Act.put, List.setIfInBounds_toArray, List.set_cons_zero, List.set_cons_succ]
  obtain ⟨q0, q1, q2, q3, q4, q5, q6⟩ := hR0.r.c7
  obtain ⟨f0, f1, f2, f3, f4, f5, f6⟩ := hR0.r.f7
  have lr := hR0.r.lt
  have B2 := Lib.hid (below_set7 hB0 (by omega : w.heap.size ≤ w.heap.size + 1 + 1) (.int .i64 2) (.int .i64 3) (.int .i64 v) (.int .i64 t) (.int .i64 b) (.bool wn) (.int .i64 0))
  have K2 := Lib.hid (bk_set7 hR0.r (.int .i64 2) (.int .i64 3) (.int .i64 v) (.int .i64 t) (.int .i64 b) (.bool wn) (.int .i64 0))
  have hS9 := Lib.hid (hS0.far7 (.int .i64 2) (.int .i64 3) (.int .i64 v) (.int .i64 t) (.int .i64 b) (.bool wn) (.int .i64 0))
  unfold set7 at hS9
  refine wpAnyH_all (rs := [2]) (by kernel_rfl) (by simp) ?_
  intro i hi
  simp only [List.mem_cons, List.not_mem_nil, or_false] at hi
  subst hi
  unfold wpOp
  go_simp
  left
  refine ⟨hS9.out, ?_⟩
  clear q0 q1 q2 q3 q4 q5 q6 f0 f1 f2 f3 f4 f5 f6 lr
  refine take_at (i := 3) (d := 8) (v := .bool false) rfl rfl (by kernel_rfl) (by kernel_rfl) (by kernel_rfl) (fun _ _ _ h => h) (.inl ⟨by kernel_rfl, fun U hU => by go_simp⟩) hS9.out ?_
  simp only [Act.put, List.setIfInBounds_toArray, List.set_cons_zero, List.set_cons_succ]
  refine wpAnyH_done (by kernel_rfl) ?_ _
  clear hS0 hR0 hB0 hO0
  go_wp2
  obtain ⟨r0, r1, r2, r3, r4, r5, r6⟩ := K2.out.c7
  unfold set7 at r0 r1 r2 r3 r4 r5 r6
  exact bodyPost_ret (v := .tuple #[.slice none 0 0, .agg #[.int .i64 2, .int .i64 3, .int .i64 v, .int .i64 t, .int .i64 b, .bool wn, .int .i64 0], .bool false]) (by simp [results, Try.results24, go_sem, r0, r1, r2, r3, r4, r5, r6]) rfl ⟨none, 0, rfl, OwnI.nil_ _ _ _, B2.out⟩

set_option maxRecDepth 100000 in
set_option maxHeartbeats 2000000 in
theorem rpop5n (c base cap gA B : Nat) (ms : List Int) (v t b : Int) (wn : Bool) (w : World) (hBw : B ≤ w.heap.size) (hx : OwnI 2 w B (some ⟨gA, 0, none⟩) c ms) (hgA : gA < w.heap.size) (hlen : base + 2 + cap ≤ ms.length) (hbig : ms.length ≤ 65536) (hc1 : 1 ≤ cap) (hc2 : cap ≤ 1024) (htn : t < 0) :
    Calls Try.prog 24 #[.slice (some ⟨gA, 0, none⟩) ms.length c, .agg #[.int .i64 base, .int .i64 cap], .agg #[.int .i64 2, .int .i64 5, .int .i64 v, .int .i64 t, .int .i64 b, .bool wn, .int .i64 0]] w (RetMO B ([]) ⟨2, 5, v, t, b, wn, 0⟩ false w) := by
  have := hBw
  clear this
  have := hbig
  clear this
  have := hlen
  clear this
  have := hc1
  clear this
  have := hc2
  clear this
  have := hgA
  clear this
  have := htn
  clear this
  have hwB : IntKind.i64.wrap ((base : Int) + 1) = (base : Int) + 1 := by rw [IntKind.wrap_i64]; omega
  have HX0 := Lib.hid hx
  have hi0 : base < ms.length := by omega
  have hi1 : base + 1 < ms.length := by omega
  obtain ⟨hS, hR, hB⟩ := three_is w base cap 2 5 v t b wn 0
  have HX := Lib.hid (hx.below hB)
  have a0 : _ = some (Value.int .i64 base) := hS.q.cell 0
  have a1 : _ = some (Value.int .i64 cap) := hS.q.cell 1
  obtain ⟨ah0, ah1, ah2, ah3, ah4, ah5, ah6⟩ := hS.h.c7
  unfold three at a0 a1 ah0 ah1 ah2 ah3 ah4 ah5 ah6
  clear hS hR hB HX
  clear hx
  go_enter Try.func24, Try.ntmps24
  go_wp2_with fail
  clear a0 a1 ah0 ah1 ah2 ah3 ah4 ah5 ah6
  obtain ⟨hS0, hR0, hB0⟩ := three_is w base cap 2 5 v t b wn 0
  have hO0 := HX0.out.below hB0
  have hS0 := hS0.drew
  have hR0 := hR0.drew
  have hB0 := hB0.drew
  have hO0 := hO0.below (Below.refl _ _).drew
  refine wp_region_held (S := SBox w.heap.size base cap 2 5 v t b wn 0) (by kernel_rfl) ?_
  change wpAnyH _ _ _ _ _ _ _ _ (World.drew (three w base cap 2 5 v t b wn 0))
  generalize (three w base cap 2 5 v t b wn 0).drew = U0 at hS0 hR0 hB0 hO0 ⊢
  refine take_at (i := 0) (d := 79) (v := .agg #[.int .i64 2, .int .i64 5, .int .i64 v, .int .i64 t, .int .i64 b, .bool wn, .int .i64 0]) rfl rfl (by kernel_rfl) (by kernel_rfl) (by kernel_rfl) (fun _ _ _ h => h) (.inl ⟨by kernel_rfl, fun U hU => by obtain ⟨hq1, hh1⟩ := hU; have z0 : _ = some (Value.int .i64 base) := hq1.cell 0; have z1 : _ = some (Value.int .i64 cap) := hq1.cell 1; obtain ⟨z2, z3, z4, z5, z6, z7, z8⟩ := hh1.c7; go_simp⟩) hS0 ?_
  simp only [Act.put, List.setIfInBounds_toArray, List.set_cons_zero, List.set_cons_succ]
  refine take_at (i := 1) (d := 6) (v := .slice none 0 0) rfl rfl (by kernel_rfl) (by kernel_rfl) (by kernel_rfl) (fun _ _ _ h => h) (.inl ⟨by kernel_rfl, fun U hU => by go_simp⟩) hS0 ?_
  simp only [Act.put, List.setIfInBounds_toArray, List.set_cons_zero, List.set_cons_succ]
  obtain ⟨q0, q1, q2, q3, q4, q5, q6⟩ := hR0.r.c7
  obtain ⟨f0, f1, f2, f3, f4, f5, f6⟩ := hR0.r.f7
  have lr := hR0.r.lt
  have B2 := Lib.hid (below_set7 hB0 (by omega : w.heap.size ≤ w.heap.size + 1 + 1) (.int .i64 2) (.int .i64 5) (.int .i64 v) (.int .i64 t) (.int .i64 b) (.bool wn) (.int .i64 0))
  have K2 := Lib.hid (bk_set7 hR0.r (.int .i64 2) (.int .i64 5) (.int .i64 v) (.int .i64 t) (.int .i64 b) (.bool wn) (.int .i64 0))
  have hS9 := Lib.hid (hS0.far7 (.int .i64 2) (.int .i64 5) (.int .i64 v) (.int .i64 t) (.int .i64 b) (.bool wn) (.int .i64 0))
  unfold set7 at hS9
  refine wpAnyH_all (rs := [2]) (by kernel_rfl) (by simp) ?_
  intro i hi
  simp only [List.mem_cons, List.not_mem_nil, or_false] at hi
  subst hi
  unfold wpOp
  go_simp
  left
  refine ⟨hS9.out, ?_⟩
  clear q0 q1 q2 q3 q4 q5 q6 f0 f1 f2 f3 f4 f5 f6 lr
  refine take_at (i := 3) (d := 8) (v := .bool false) rfl rfl (by kernel_rfl) (by kernel_rfl) (by kernel_rfl) (fun _ _ _ h => h) (.inl ⟨by kernel_rfl, fun U hU => by go_simp⟩) hS9.out ?_
  simp only [Act.put, List.setIfInBounds_toArray, List.set_cons_zero, List.set_cons_succ]
  refine wpAnyH_done (by kernel_rfl) ?_ _
  clear hS0 hR0 hB0 hO0
  go_wp2
  obtain ⟨r0, r1, r2, r3, r4, r5, r6⟩ := K2.out.c7
  unfold set7 at r0 r1 r2 r3 r4 r5 r6
  exact bodyPost_ret (v := .tuple #[.slice none 0 0, .agg #[.int .i64 2, .int .i64 5, .int .i64 v, .int .i64 t, .int .i64 b, .bool wn, .int .i64 0], .bool false]) (by simp [results, Try.results24, go_sem, r0, r1, r2, r3, r4, r5, r6]) rfl ⟨none, 0, rfl, OwnI.nil_ _ _ _, B2.out⟩

set_option maxRecDepth 100000 in
set_option maxHeartbeats 2000000 in
theorem rpop6n (c base cap gA B : Nat) (ms : List Int) (v t b : Int) (wn : Bool) (w : World) (hBw : B ≤ w.heap.size) (hx : OwnI 2 w B (some ⟨gA, 0, none⟩) c ms) (hgA : gA < w.heap.size) (hlen : base + 2 + cap ≤ ms.length) (hbig : ms.length ≤ 65536) (hc1 : 1 ≤ cap) (hc2 : cap ≤ 1024) (htn : t < 0) :
    Calls Try.prog 24 #[.slice (some ⟨gA, 0, none⟩) ms.length c, .agg #[.int .i64 base, .int .i64 cap], .agg #[.int .i64 2, .int .i64 6, .int .i64 v, .int .i64 t, .int .i64 b, .bool wn, .int .i64 0]] w (RetMO B ([]) ⟨2, 6, v, t, b, wn, 0⟩ false w) := by
  have := hBw
  clear this
  have := hbig
  clear this
  have := hlen
  clear this
  have := hc1
  clear this
  have := hc2
  clear this
  have := hgA
  clear this
  have := htn
  clear this
  have hwB : IntKind.i64.wrap ((base : Int) + 1) = (base : Int) + 1 := by rw [IntKind.wrap_i64]; omega
  have HX0 := Lib.hid hx
  have hi0 : base < ms.length := by omega
  have hi1 : base + 1 < ms.length := by omega
  obtain ⟨hS, hR, hB⟩ := three_is w base cap 2 6 v t b wn 0
  have HX := Lib.hid (hx.below hB)
  have a0 : _ = some (Value.int .i64 base) := hS.q.cell 0
  have a1 : _ = some (Value.int .i64 cap) := hS.q.cell 1
  obtain ⟨ah0, ah1, ah2, ah3, ah4, ah5, ah6⟩ := hS.h.c7
  unfold three at a0 a1 ah0 ah1 ah2 ah3 ah4 ah5 ah6
  clear hS hR hB HX
  clear hx
  go_enter Try.func24, Try.ntmps24
  go_wp2_with fail
  clear a0 a1 ah0 ah1 ah2 ah3 ah4 ah5 ah6
  obtain ⟨hS0, hR0, hB0⟩ := three_is w base cap 2 6 v t b wn 0
  have hO0 := HX0.out.below hB0
  have hS0 := hS0.drew
  have hR0 := hR0.drew
  have hB0 := hB0.drew
  have hO0 := hO0.below (Below.refl _ _).drew
  refine wp_region_held (S := SBox w.heap.size base cap 2 6 v t b wn 0) (by kernel_rfl) ?_
  change wpAnyH _ _ _ _ _ _ _ _ (World.drew (three w base cap 2 6 v t b wn 0))
  generalize (three w base cap 2 6 v t b wn 0).drew = U0 at hS0 hR0 hB0 hO0 ⊢
  refine take_at (i := 0) (d := 79) (v := .agg #[.int .i64 2, .int .i64 6, .int .i64 v, .int .i64 t, .int .i64 b, .bool wn, .int .i64 0]) rfl rfl (by kernel_rfl) (by kernel_rfl) (by kernel_rfl) (fun _ _ _ h => h) (.inl ⟨by kernel_rfl, fun U hU => by obtain ⟨hq1, hh1⟩ := hU; have z0 : _ = some (Value.int .i64 base) := hq1.cell 0; have z1 : _ = some (Value.int .i64 cap) := hq1.cell 1; obtain ⟨z2, z3, z4, z5, z6, z7, z8⟩ := hh1.c7; go_simp⟩) hS0 ?_
  simp only [Act.put, List.setIfInBounds_toArray, List.set_cons_zero, List.set_cons_succ]
  refine take_at (i := 1) (d := 6) (v := .slice none 0 0) rfl rfl (by kernel_rfl) (by kernel_rfl) (by kernel_rfl) (fun _ _ _ h => h) (.inl ⟨by kernel_rfl, fun U hU => by go_simp⟩) hS0 ?_
  simp only [Act.put, List.setIfInBounds_toArray, List.set_cons_zero, List.set_cons_succ]
  obtain ⟨q0, q1, q2, q3, q4, q5, q6⟩ := hR0.r.c7
  obtain ⟨f0, f1, f2, f3, f4, f5, f6⟩ := hR0.r.f7
  have lr := hR0.r.lt
  have B2 := Lib.hid (below_set7 hB0 (by omega : w.heap.size ≤ w.heap.size + 1 + 1) (.int .i64 2) (.int .i64 6) (.int .i64 v) (.int .i64 t) (.int .i64 b) (.bool wn) (.int .i64 0))
  have K2 := Lib.hid (bk_set7 hR0.r (.int .i64 2) (.int .i64 6) (.int .i64 v) (.int .i64 t) (.int .i64 b) (.bool wn) (.int .i64 0))
  have hS9 := Lib.hid (hS0.far7 (.int .i64 2) (.int .i64 6) (.int .i64 v) (.int .i64 t) (.int .i64 b) (.bool wn) (.int .i64 0))
  unfold set7 at hS9
  refine wpAnyH_all (rs := [2]) (by kernel_rfl) (by simp) ?_
  intro i hi
  simp only [List.mem_cons, List.not_mem_nil, or_false] at hi
  subst hi
  unfold wpOp
  go_simp
  left
  refine ⟨hS9.out, ?_⟩
  clear q0 q1 q2 q3 q4 q5 q6 f0 f1 f2 f3 f4 f5 f6 lr
  refine take_at (i := 3) (d := 8) (v := .bool false) rfl rfl (by kernel_rfl) (by kernel_rfl) (by kernel_rfl) (fun _ _ _ h => h) (.inl ⟨by kernel_rfl, fun U hU => by go_simp⟩) hS9.out ?_
  simp only [Act.put, List.setIfInBounds_toArray, List.set_cons_zero, List.set_cons_succ]
  refine wpAnyH_done (by kernel_rfl) ?_ _
  clear hS0 hR0 hB0 hO0
  go_wp2
  obtain ⟨r0, r1, r2, r3, r4, r5, r6⟩ := K2.out.c7
  unfold set7 at r0 r1 r2 r3 r4 r5 r6
  exact bodyPost_ret (v := .tuple #[.slice none 0 0, .agg #[.int .i64 2, .int .i64 6, .int .i64 v, .int .i64 t, .int .i64 b, .bool wn, .int .i64 0], .bool false]) (by simp [results, Try.results24, go_sem, r0, r1, r2, r3, r4, r5, r6]) rfl ⟨none, 0, rfl, OwnI.nil_ _ _ _, B2.out⟩

set_option maxRecDepth 100000 in
set_option maxHeartbeats 2000000 in
theorem rpop3 (c base cap gA B : Nat) (ms : List Int) (v t b : Int) (wn : Bool) (w : World) (hBw : B ≤ w.heap.size) (hx : OwnI 2 w B (some ⟨gA, 0, none⟩) c ms) (hgA : gA < w.heap.size) (hlen : base + 2 + cap ≤ ms.length) (hbig : ms.length ≤ 65536) (hc1 : 1 ≤ cap) (hc2 : cap ≤ 1024) (ht0 : 0 ≤ t) (ht1 : t ≤ 1099511627776) (ft : Fit t) :
    Calls Try.prog 24 #[.slice (some ⟨gA, 0, none⟩) ms.length c, .agg #[.int .i64 base, .int .i64 cap], .agg #[.int .i64 2, .int .i64 3, .int .i64 v, .int .i64 t, .int .i64 b, .bool wn, .int .i64 0]] w (RetMO B (ms.set (base + 1) t) ⟨2, 3, v, t, b, wn, 2⟩ true w) := by
  have := hBw
  clear this
  have := hbig
  clear this
  have := hlen
  clear this
  have := hc1
  clear this
  have := hc2
  clear this
  have := hgA
  clear this
  have := ht0
  clear this
  have := ht1
  clear this
  have := ft
  clear this
  have hwB : IntKind.i64.wrap ((base : Int) + 1) = (base : Int) + 1 := by rw [IntKind.wrap_i64]; omega
  have HX0 := Lib.hid hx
  have hi0 : base < ms.length := by omega
  have hi1 : base + 1 < ms.length := by omega
  obtain ⟨hS, hR, hB⟩ := three_is w base cap 2 3 v t b wn 0
  have HX := Lib.hid (hx.below hB)
  have a0 : _ = some (Value.int .i64 base) := hS.q.cell 0
  have a1 : _ = some (Value.int .i64 cap) := hS.q.cell 1
  obtain ⟨ah0, ah1, ah2, ah3, ah4, ah5, ah6⟩ := hS.h.c7
  unfold three at a0 a1 ah0 ah1 ah2 ah3 ah4 ah5 ah6
  clear hS hR hB HX
  clear hx
  go_enter Try.func24, Try.ntmps24
  go_wp2_with fail
  clear a0 a1 ah0 ah1 ah2 ah3 ah4 ah5 ah6
  obtain ⟨hS0, hR0, hB0⟩ := three_is w base cap 2 3 v t b wn 0
  have hO0 := HX0.out.below hB0
  have hS0 := hS0.drew
  have hR0 := hR0.drew
  have hB0 := hB0.drew
  have hO0 := hO0.below (Below.refl _ _).drew
  refine wp_region_held (S := SBox w.heap.size base cap 2 3 v t b wn 0) (by kernel_rfl) ?_
  change wpAnyH _ _ _ _ _ _ _ _ (World.drew (three w base cap 2 3 v t b wn 0))
  generalize (three w base cap 2 3 v t b wn 0).drew = U0 at hS0 hR0 hB0 hO0 ⊢
  refine take_at (i := 0) (d := 83) (v := .slice (some ⟨gA, 0, none⟩) ms.length c) rfl rfl (by kernel_rfl) (by kernel_rfl) (by kernel_rfl) (fun _ _ _ h => h) (.inl ⟨by kernel_rfl, fun U hU => by obtain ⟨hq1, hh1⟩ := hU; have z0 : _ = some (Value.int .i64 base) := hq1.cell 0; have z1 : _ = some (Value.int .i64 cap) := hq1.cell 1; obtain ⟨z2, z3, z4, z5, z6, z7, z8⟩ := hh1.c7; go_simp⟩) hS0 ?_
  simp only [Act.put, List.setIfInBounds_toArray, List.set_cons_zero, List.set_cons_succ]
  refine take_at (i := 1) (d := 84) (v := .pointer (some ⟨w.heap.size, 0, none⟩)) rfl rfl (by kernel_rfl) (by kernel_rfl) (by kernel_rfl) (fun _ _ _ h => h) (.inl ⟨by kernel_rfl, fun U hU => by obtain ⟨hq1, hh1⟩ := hU; have z0 : _ = some (Value.int .i64 base) := hq1.cell 0; have z1 : _ = some (Value.int .i64 cap) := hq1.cell 1; obtain ⟨z2, z3, z4, z5, z6, z7, z8⟩ := hh1.c7; go_simp⟩) hS0 ?_
  simp only [Act.put, List.setIfInBounds_toArray, List.set_cons_zero, List.set_cons_succ]
  refine take_at (i := 2) (d := 85) (v := .int .i64 base) rfl rfl (by kernel_rfl) (by kernel_rfl) (by kernel_rfl) (fun _ _ _ h => h) (.inl ⟨by kernel_rfl, fun U hU => by obtain ⟨hq1, hh1⟩ := hU; have z0 : _ = some (Value.int .i64 base) := hq1.cell 0; have z1 : _ = some (Value.int .i64 cap) := hq1.cell 1; obtain ⟨z2, z3, z4, z5, z6, z7, z8⟩ := hh1.c7; go_simp⟩) hS0 ?_
  simp only [Act.put, List.setIfInBounds_toArray, List.set_cons_zero, List.set_cons_succ]
  refine take_at (i := 3) (d := 86) (v := .int .i64 ((base : Int) + 1)) rfl rfl (by kernel_rfl) (by kernel_rfl) (by kernel_rfl) (fun _ _ _ h => h) (.inl ⟨by kernel_rfl, fun U hU => by obtain ⟨hq1, hh1⟩ := hU; have z0 : _ = some (Value.int .i64 base) := hq1.cell 0; have z1 : _ = some (Value.int .i64 cap) := hq1.cell 1; obtain ⟨z2, z3, z4, z5, z6, z7, z8⟩ := hh1.c7; go_simp⟩) hS0 ?_
  simp only [Act.put, List.setIfInBounds_toArray, List.set_cons_zero, List.set_cons_succ]
  refine take_at (i := 4) (d := 87) (v := .pointer (some ⟨w.heap.size + 1, 3, none⟩)) rfl rfl (by kernel_rfl) (by kernel_rfl) (by kernel_rfl) (fun _ _ _ h => h) (.inl ⟨by kernel_rfl, fun U hU => by obtain ⟨hq1, hh1⟩ := hU; have z0 : _ = some (Value.int .i64 base) := hq1.cell 0; have z1 : _ = some (Value.int .i64 cap) := hq1.cell 1; obtain ⟨z2, z3, z4, z5, z6, z7, z8⟩ := hh1.c7; go_simp⟩) hS0 ?_
  simp only [Act.put, List.setIfInBounds_toArray, List.set_cons_zero, List.set_cons_succ]
  refine take_at (i := 5) (d := 88) (v := .int .i64 t) rfl rfl (by kernel_rfl) (by kernel_rfl) (by kernel_rfl) (fun _ _ _ h => h) (.inl ⟨by kernel_rfl, fun U hU => by obtain ⟨hq1, hh1⟩ := hU; have z0 : _ = some (Value.int .i64 base) := hq1.cell 0; have z1 : _ = some (Value.int .i64 cap) := hq1.cell 1; obtain ⟨z2, z3, z4, z5, z6, z7, z8⟩ := hh1.c7; go_simp⟩) hS0 ?_
  simp only [Act.put, List.setIfInBounds_toArray, List.set_cons_zero, List.set_cons_succ]
  refine take_at (i := 7) (d := 90) (v := .agg #[.int .i64 2, .int .i64 3, .int .i64 v, .int .i64 t, .int .i64 b, .bool wn, .int .i64 0]) rfl rfl (by kernel_rfl) (by kernel_rfl) (by kernel_rfl) (fun _ _ _ h => h) (.inl ⟨by kernel_rfl, fun U hU => by obtain ⟨hq1, hh1⟩ := hU; have z0 : _ = some (Value.int .i64 base) := hq1.cell 0; have z1 : _ = some (Value.int .i64 cap) := hq1.cell 1; obtain ⟨z2, z3, z4, z5, z6, z7, z8⟩ := hh1.c7; go_simp⟩) hS0 ?_
  simp only [Act.put, List.setIfInBounds_toArray, List.set_cons_zero, List.set_cons_succ]
  refine wpAnyH_all (rs := [6]) (by kernel_rfl) (by simp) ?_
  intro i hi
  simp only [List.mem_cons, List.not_mem_nil, or_false] at hi
  subst hi
  unfold wpOp
  go_simp
  left
  refine (with_at _ _ _ ms _ hO0.ints (base + 1) _ (by omega) (by omega) t ft).mono ?_
  rintro e U1 ⟨A1, c1, rfl, o1, b1⟩
  have hS1 := hS0.below b1
  have hR1 := hR0.below b1
  have hB1 := below3 hB0 b1
  obtain ⟨g1, rfl, hg1, -, -, -⟩ := o1.form (by rw [List.length_set]; omega)
  have hO1 := o1.base (show B ≤ U0.heap.size by have := hR0.r.lt; omega)
  have hgn : g1 ≠ w.heap.size + 1 + 1 := (by have := hR0.r.lt; omega)
  refine ⟨hS1, ?_⟩
  clear b1 hS0 hR0 hB0 hO0
  try simp only [Act.put, List.setIfInBounds_toArray, List.set_cons_zero, List.set_cons_succ]
  refine wpAnyH_all (rs := [8]) (by kernel_rfl) (by simp) ?_
  intro i hi
  simp only [List.mem_cons, List.not_mem_nil, or_false] at hi
  subst hi
  unfold wpOp
  go_simp
  left
  refine (ended7 2 3 v t b wn 0 2 _).mono ?_
  rintro e U2 ⟨rfl, b1⟩
  have hS2 := hS1.below b1
  have hR2 := hR1.below b1
  have hB2 := below3 hB1 b1
  have hO2 := hO1.below b1
  refine ⟨hS2, ?_⟩
  clear b1 hS1 hR1 hB1 hO1
  try simp only [Act.put, List.setIfInBounds_toArray, List.set_cons_zero, List.set_cons_succ]
  refine take_at (i := 9) (d := 6) (v := .slice (some ⟨g1, 0, none⟩) (ms.set (base + 1) t).length c1) rfl rfl (by kernel_rfl) (by kernel_rfl) (by kernel_rfl) (fun _ _ _ h => h) (.inl ⟨by kernel_rfl, fun U hU => by go_simp⟩) hS2 ?_
  simp only [Act.put, List.setIfInBounds_toArray, List.set_cons_zero, List.set_cons_succ]
  obtain ⟨q0, q1, q2, q3, q4, q5, q6⟩ := hR2.r.c7
  obtain ⟨f0, f1, f2, f3, f4, f5, f6⟩ := hR2.r.f7
  have lr := hR2.r.lt
  have B2 := Lib.hid (below_set7 hB2 (by omega : w.heap.size ≤ w.heap.size + 1 + 1) (.int .i64 2) (.int .i64 3) (.int .i64 v) (.int .i64 t) (.int .i64 b) (.bool wn) (.int .i64 2))
  have K2 := Lib.hid (bk_set7 hR2.r (.int .i64 2) (.int .i64 3) (.int .i64 v) (.int .i64 t) (.int .i64 b) (.bool wn) (.int .i64 2))
  have hS9 := Lib.hid (hS2.far7 (.int .i64 2) (.int .i64 3) (.int .i64 v) (.int .i64 t) (.int .i64 b) (.bool wn) (.int .i64 2))
  have O2 := Lib.hid (own_far7 hO2 hgn (.int .i64 2) (.int .i64 3) (.int .i64 v) (.int .i64 t) (.int .i64 b) (.bool wn) (.int .i64 2))
  unfold set7 at hS9
  refine wpAnyH_all (rs := [10]) (by kernel_rfl) (by simp) ?_
  intro i hi
  simp only [List.mem_cons, List.not_mem_nil, or_false] at hi
  subst hi
  unfold wpOp
  go_simp
  left
  refine ⟨hS9.out, ?_⟩
  clear q0 q1 q2 q3 q4 q5 q6 f0 f1 f2 f3 f4 f5 f6 lr
  refine take_at (i := 11) (d := 8) (v := .bool true) rfl rfl (by kernel_rfl) (by kernel_rfl) (by kernel_rfl) (fun _ _ _ h => h) (.inl ⟨by kernel_rfl, fun U hU => by go_simp⟩) hS9.out ?_
  simp only [Act.put, List.setIfInBounds_toArray, List.set_cons_zero, List.set_cons_succ]
  refine wpAnyH_done (by kernel_rfl) ?_ _
  clear hS2 hR2 hB2 hO2
  go_wp2
  obtain ⟨r0, r1, r2, r3, r4, r5, r6⟩ := K2.out.c7
  unfold set7 at r0 r1 r2 r3 r4 r5 r6
  exact bodyPost_ret (v := .tuple #[.slice (some ⟨g1, 0, none⟩) (ms.set (base + 1) t).length c1, .agg #[.int .i64 2, .int .i64 3, .int .i64 v, .int .i64 t, .int .i64 b, .bool wn, .int .i64 2], .bool true]) (by simp [results, Try.results24, go_sem, r0, r1, r2, r3, r4, r5, r6]) rfl ⟨_, _, rfl, O2.out, B2.out⟩

set_option maxRecDepth 100000 in
set_option maxHeartbeats 2000000 in
theorem rpop4n (c base cap gA B : Nat) (ms : List Int) (v t b : Int) (wn : Bool) (w : World) (hBw : B ≤ w.heap.size) (hx : OwnI 2 w B (some ⟨gA, 0, none⟩) c ms) (hgA : gA < w.heap.size) (hlen : base + 2 + cap ≤ ms.length) (hbig : ms.length ≤ 65536) (hc1 : 1 ≤ cap) (hc2 : cap ≤ 1024) (ht0 : t < 0) (hbn : b < 0) :
    Calls Try.prog 24 #[.slice (some ⟨gA, 0, none⟩) ms.length c, .agg #[.int .i64 base, .int .i64 cap], .agg #[.int .i64 2, .int .i64 4, .int .i64 v, .int .i64 t, .int .i64 b, .bool wn, .int .i64 0]] w (RetMO B ([]) ⟨2, 4, v, t, b, wn, 0⟩ false w) := by
  have := hBw
  clear this
  have := hbig
  clear this
  have := hlen
  clear this
  have := hc1
  clear this
  have := hc2
  clear this
  have := hgA
  clear this
  have := ht0
  clear this
  have := hbn
  clear this
  have hwB : IntKind.i64.wrap ((base : Int) + 1) = (base : Int) + 1 := by rw [IntKind.wrap_i64]; omega
  have HX0 := Lib.hid hx
  have hi0 : base < ms.length := by omega
  have hi1 : base + 1 < ms.length := by omega
  obtain ⟨hS, hR, hB⟩ := three_is w base cap 2 4 v t b wn 0
  have HX := Lib.hid (hx.below hB)
  have a0 : _ = some (Value.int .i64 base) := hS.q.cell 0
  have a1 : _ = some (Value.int .i64 cap) := hS.q.cell 1
  obtain ⟨ah0, ah1, ah2, ah3, ah4, ah5, ah6⟩ := hS.h.c7
  unfold three at a0 a1 ah0 ah1 ah2 ah3 ah4 ah5 ah6
  clear hS hR hB HX
  clear hx
  go_enter Try.func24, Try.ntmps24
  go_wp2_with fail
  clear a0 a1 ah0 ah1 ah2 ah3 ah4 ah5 ah6
  obtain ⟨hS0, hR0, hB0⟩ := three_is w base cap 2 4 v t b wn 0
  have hO0 := HX0.out.below hB0
  have hS0 := hS0.drew
  have hR0 := hR0.drew
  have hB0 := hB0.drew
  have hO0 := hO0.below (Below.refl _ _).drew
  refine wp_region_held (S := SBox w.heap.size base cap 2 4 v t b wn 0) (by kernel_rfl) ?_
  change wpAnyH _ _ _ _ _ _ _ _ (World.drew (three w base cap 2 4 v t b wn 0))
  generalize (three w base cap 2 4 v t b wn 0).drew = U0 at hS0 hR0 hB0 hO0 ⊢
  refine take_at (i := 0) (d := 98) (v := .agg #[.int .i64 2, .int .i64 4, .int .i64 v, .int .i64 t, .int .i64 b, .bool wn, .int .i64 0]) rfl rfl (by kernel_rfl) (by kernel_rfl) (by kernel_rfl) (fun _ _ _ h => h) (.inl ⟨by kernel_rfl, fun U hU => by obtain ⟨hq1, hh1⟩ := hU; have z0 : _ = some (Value.int .i64 base) := hq1.cell 0; have z1 : _ = some (Value.int .i64 cap) := hq1.cell 1; obtain ⟨z2, z3, z4, z5, z6, z7, z8⟩ := hh1.c7; go_simp⟩) hS0 ?_
  simp only [Act.put, List.setIfInBounds_toArray, List.set_cons_zero, List.set_cons_succ]
  refine take_at (i := 1) (d := 6) (v := .slice none 0 0) rfl rfl (by kernel_rfl) (by kernel_rfl) (by kernel_rfl) (fun _ _ _ h => h) (.inl ⟨by kernel_rfl, fun U hU => by go_simp⟩) hS0 ?_
  simp only [Act.put, List.setIfInBounds_toArray, List.set_cons_zero, List.set_cons_succ]
  obtain ⟨q0, q1, q2, q3, q4, q5, q6⟩ := hR0.r.c7
  obtain ⟨f0, f1, f2, f3, f4, f5, f6⟩ := hR0.r.f7
  have lr := hR0.r.lt
  have B2 := Lib.hid (below_set7 hB0 (by omega : w.heap.size ≤ w.heap.size + 1 + 1) (.int .i64 2) (.int .i64 4) (.int .i64 v) (.int .i64 t) (.int .i64 b) (.bool wn) (.int .i64 0))
  have K2 := Lib.hid (bk_set7 hR0.r (.int .i64 2) (.int .i64 4) (.int .i64 v) (.int .i64 t) (.int .i64 b) (.bool wn) (.int .i64 0))
  have hS9 := Lib.hid (hS0.far7 (.int .i64 2) (.int .i64 4) (.int .i64 v) (.int .i64 t) (.int .i64 b) (.bool wn) (.int .i64 0))
  unfold set7 at hS9
  refine wpAnyH_all (rs := [2]) (by kernel_rfl) (by simp) ?_
  intro i hi
  simp only [List.mem_cons, List.not_mem_nil, or_false] at hi
  subst hi
  unfold wpOp
  go_simp
  left
  refine ⟨hS9.out, ?_⟩
  clear q0 q1 q2 q3 q4 q5 q6 f0 f1 f2 f3 f4 f5 f6 lr
  refine take_at (i := 3) (d := 8) (v := .bool false) rfl rfl (by kernel_rfl) (by kernel_rfl) (by kernel_rfl) (fun _ _ _ h => h) (.inl ⟨by kernel_rfl, fun U hU => by go_simp⟩) hS9.out ?_
  simp only [Act.put, List.setIfInBounds_toArray, List.set_cons_zero, List.set_cons_succ]
  refine wpAnyH_done (by kernel_rfl) ?_ _
  clear hS0 hR0 hB0 hO0
  go_wp2
  obtain ⟨r0, r1, r2, r3, r4, r5, r6⟩ := K2.out.c7
  unfold set7 at r0 r1 r2 r3 r4 r5 r6
  exact bodyPost_ret (v := .tuple #[.slice none 0 0, .agg #[.int .i64 2, .int .i64 4, .int .i64 v, .int .i64 t, .int .i64 b, .bool wn, .int .i64 0], .bool false]) (by simp [results, Try.results24, go_sem, r0, r1, r2, r3, r4, r5, r6]) rfl ⟨none, 0, rfl, OwnI.nil_ _ _ _, B2.out⟩

set_option maxRecDepth 100000 in
set_option maxHeartbeats 2000000 in
theorem rpop4p (c base cap gA B : Nat) (ms : List Int) (v t b : Int) (wn : Bool) (w : World) (hBw : B ≤ w.heap.size) (hx : OwnI 2 w B (some ⟨gA, 0, none⟩) c ms) (hgA : gA < w.heap.size) (hlen : base + 2 + cap ≤ ms.length) (hbig : ms.length ≤ 65536) (hc1 : 1 ≤ cap) (hc2 : cap ≤ 1024) (ht0 : 0 ≤ t) (hbn : b < 0) :
    Calls Try.prog 24 #[.slice (some ⟨gA, 0, none⟩) ms.length c, .agg #[.int .i64 base, .int .i64 cap], .agg #[.int .i64 2, .int .i64 4, .int .i64 v, .int .i64 t, .int .i64 b, .bool wn, .int .i64 0]] w (RetMO B ([]) ⟨2, 4, v, t, b, wn, 0⟩ false w) := by
  have := hBw
  clear this
  have := hbig
  clear this
  have := hlen
  clear this
  have := hc1
  clear this
  have := hc2
  clear this
  have := hgA
  clear this
  have := ht0
  clear this
  have := hbn
  clear this
  have hwB : IntKind.i64.wrap ((base : Int) + 1) = (base : Int) + 1 := by rw [IntKind.wrap_i64]; omega
  have HX0 := Lib.hid hx
  have hi0 : base < ms.length := by omega
  have hi1 : base + 1 < ms.length := by omega
  obtain ⟨hS, hR, hB⟩ := three_is w base cap 2 4 v t b wn 0
  have HX := Lib.hid (hx.below hB)
  have a0 : _ = some (Value.int .i64 base) := hS.q.cell 0
  have a1 : _ = some (Value.int .i64 cap) := hS.q.cell 1
  obtain ⟨ah0, ah1, ah2, ah3, ah4, ah5, ah6⟩ := hS.h.c7
  unfold three at a0 a1 ah0 ah1 ah2 ah3 ah4 ah5 ah6
  clear hS hR hB HX
  clear hx
  go_enter Try.func24, Try.ntmps24
  go_wp2_with fail
  clear a0 a1 ah0 ah1 ah2 ah3 ah4 ah5 ah6
  obtain ⟨hS0, hR0, hB0⟩ := three_is w base cap 2 4 v t b wn 0
  have hO0 := HX0.out.below hB0
  have hS0 := hS0.drew
  have hR0 := hR0.drew
  have hB0 := hB0.drew
  have hO0 := hO0.below (Below.refl _ _).drew
  refine wp_region_held (S := SBox w.heap.size base cap 2 4 v t b wn 0) (by kernel_rfl) ?_
  change wpAnyH _ _ _ _ _ _ _ _ (World.drew (three w base cap 2 4 v t b wn 0))
  generalize (three w base cap 2 4 v t b wn 0).drew = U0 at hS0 hR0 hB0 hO0 ⊢
  refine take_at (i := 0) (d := 98) (v := .agg #[.int .i64 2, .int .i64 4, .int .i64 v, .int .i64 t, .int .i64 b, .bool wn, .int .i64 0]) rfl rfl (by kernel_rfl) (by kernel_rfl) (by kernel_rfl) (fun _ _ _ h => h) (.inl ⟨by kernel_rfl, fun U hU => by obtain ⟨hq1, hh1⟩ := hU; have z0 : _ = some (Value.int .i64 base) := hq1.cell 0; have z1 : _ = some (Value.int .i64 cap) := hq1.cell 1; obtain ⟨z2, z3, z4, z5, z6, z7, z8⟩ := hh1.c7; go_simp⟩) hS0 ?_
  simp only [Act.put, List.setIfInBounds_toArray, List.set_cons_zero, List.set_cons_succ]
  refine take_at (i := 1) (d := 6) (v := .slice none 0 0) rfl rfl (by kernel_rfl) (by kernel_rfl) (by kernel_rfl) (fun _ _ _ h => h) (.inl ⟨by kernel_rfl, fun U hU => by go_simp⟩) hS0 ?_
  simp only [Act.put, List.setIfInBounds_toArray, List.set_cons_zero, List.set_cons_succ]
  obtain ⟨q0, q1, q2, q3, q4, q5, q6⟩ := hR0.r.c7
  obtain ⟨f0, f1, f2, f3, f4, f5, f6⟩ := hR0.r.f7
  have lr := hR0.r.lt
  have B2 := Lib.hid (below_set7 hB0 (by omega : w.heap.size ≤ w.heap.size + 1 + 1) (.int .i64 2) (.int .i64 4) (.int .i64 v) (.int .i64 t) (.int .i64 b) (.bool wn) (.int .i64 0))
  have K2 := Lib.hid (bk_set7 hR0.r (.int .i64 2) (.int .i64 4) (.int .i64 v) (.int .i64 t) (.int .i64 b) (.bool wn) (.int .i64 0))
  have hS9 := Lib.hid (hS0.far7 (.int .i64 2) (.int .i64 4) (.int .i64 v) (.int .i64 t) (.int .i64 b) (.bool wn) (.int .i64 0))
  unfold set7 at hS9
  refine wpAnyH_all (rs := [2]) (by kernel_rfl) (by simp) ?_
  intro i hi
  simp only [List.mem_cons, List.not_mem_nil, or_false] at hi
  subst hi
  unfold wpOp
  go_simp
  left
  refine ⟨hS9.out, ?_⟩
  clear q0 q1 q2 q3 q4 q5 q6 f0 f1 f2 f3 f4 f5 f6 lr
  refine take_at (i := 3) (d := 8) (v := .bool false) rfl rfl (by kernel_rfl) (by kernel_rfl) (by kernel_rfl) (fun _ _ _ h => h) (.inl ⟨by kernel_rfl, fun U hU => by go_simp⟩) hS9.out ?_
  simp only [Act.put, List.setIfInBounds_toArray, List.set_cons_zero, List.set_cons_succ]
  refine wpAnyH_done (by kernel_rfl) ?_ _
  clear hS0 hR0 hB0 hO0
  go_wp2
  obtain ⟨r0, r1, r2, r3, r4, r5, r6⟩ := K2.out.c7
  unfold set7 at r0 r1 r2 r3 r4 r5 r6
  exact bodyPost_ret (v := .tuple #[.slice none 0 0, .agg #[.int .i64 2, .int .i64 4, .int .i64 v, .int .i64 t, .int .i64 b, .bool wn, .int .i64 0], .bool false]) (by simp [results, Try.results24, go_sem, r0, r1, r2, r3, r4, r5, r6]) rfl ⟨none, 0, rfl, OwnI.nil_ _ _ _, B2.out⟩

set_option maxRecDepth 100000 in
set_option maxHeartbeats 2000000 in
theorem rpop6t (c base cap gA B : Nat) (ms : List Int) (v t b : Int) (w : World) (hBw : B ≤ w.heap.size) (hx : OwnI 2 w B (some ⟨gA, 0, none⟩) c ms) (hgA : gA < w.heap.size) (hlen : base + 2 + cap ≤ ms.length) (hbig : ms.length ≤ 65536) (hc1 : 1 ≤ cap) (hc2 : cap ≤ 1024) (ht0 : 0 ≤ t) (ht1 : t ≤ 1099511627776) (hwt : IntKind.i64.wrap (t + 1) = t + 1) (ft1 : Fit (t + 1)) :
    Calls Try.prog 24 #[.slice (some ⟨gA, 0, none⟩) ms.length c, .agg #[.int .i64 base, .int .i64 cap], .agg #[.int .i64 2, .int .i64 6, .int .i64 v, .int .i64 t, .int .i64 b, .bool true, .int .i64 0]] w (RetMO B (ms.set (base + 1) (t + 1)) ⟨2, 6, v, t, b, true, 1⟩ true w) := by
  have := hBw
  clear this
  have := hbig
  clear this
  have := hlen
  clear this
  have := hc1
  clear this
  have := hc2
  clear this
  have := hgA
  clear this
  have := ht0
  clear this
  have := ht1
  clear this
  have := hwt
  clear this
  have := ft1
  clear this
  have hwB : IntKind.i64.wrap ((base : Int) + 1) = (base : Int) + 1 := by rw [IntKind.wrap_i64]; omega
  have HX0 := Lib.hid hx
  have hi0 : base < ms.length := by omega
  have hi1 : base + 1 < ms.length := by omega
  obtain ⟨hS, hR, hB⟩ := three_is w base cap 2 6 v t b true 0
  have HX := Lib.hid (hx.below hB)
  have a0 : _ = some (Value.int .i64 base) := hS.q.cell 0
  have a1 : _ = some (Value.int .i64 cap) := hS.q.cell 1
  obtain ⟨ah0, ah1, ah2, ah3, ah4, ah5, ah6⟩ := hS.h.c7
  unfold three at a0 a1 ah0 ah1 ah2 ah3 ah4 ah5 ah6
  clear hS hR hB HX
  clear hx
  go_enter Try.func24, Try.ntmps24
  go_wp2_with fail
  clear a0 a1 ah0 ah1 ah2 ah3 ah4 ah5 ah6
  obtain ⟨hS0, hR0, hB0⟩ := three_is w base cap 2 6 v t b true 0
  have hO0 := HX0.out.below hB0
  have hS0 := hS0.drew
  have hR0 := hR0.drew
  have hB0 := hB0.drew
  have hO0 := hO0.below (Below.refl _ _).drew
  refine wp_region_held (S := SBox w.heap.size base cap 2 6 v t b true 0) (by kernel_rfl) ?_
  change wpAnyH _ _ _ _ _ _ _ _ (World.drew (three w base cap 2 6 v t b true 0))
  generalize (three w base cap 2 6 v t b true 0).drew = U0 at hS0 hR0 hB0 hO0 ⊢
  refine take_at (i := 0) (d := 144) (v := .slice (some ⟨gA, 0, none⟩) ms.length c) rfl rfl (by kernel_rfl) (by kernel_rfl) (by kernel_rfl) (fun _ _ _ h => h) (.inl ⟨by kernel_rfl, fun U hU => by obtain ⟨hq1, hh1⟩ := hU; have z0 : _ = some (Value.int .i64 base) := hq1.cell 0; have z1 : _ = some (Value.int .i64 cap) := hq1.cell 1; obtain ⟨z2, z3, z4, z5, z6, z7, z8⟩ := hh1.c7; go_simp⟩) hS0 ?_
  simp only [Act.put, List.setIfInBounds_toArray, List.set_cons_zero, List.set_cons_succ]
  refine take_at (i := 1) (d := 145) (v := .pointer (some ⟨w.heap.size, 0, none⟩)) rfl rfl (by kernel_rfl) (by kernel_rfl) (by kernel_rfl) (fun _ _ _ h => h) (.inl ⟨by kernel_rfl, fun U hU => by obtain ⟨hq1, hh1⟩ := hU; have z0 : _ = some (Value.int .i64 base) := hq1.cell 0; have z1 : _ = some (Value.int .i64 cap) := hq1.cell 1; obtain ⟨z2, z3, z4, z5, z6, z7, z8⟩ := hh1.c7; go_simp⟩) hS0 ?_
  simp only [Act.put, List.setIfInBounds_toArray, List.set_cons_zero, List.set_cons_succ]
  refine take_at (i := 2) (d := 146) (v := .int .i64 base) rfl rfl (by kernel_rfl) (by kernel_rfl) (by kernel_rfl) (fun _ _ _ h => h) (.inl ⟨by kernel_rfl, fun U hU => by obtain ⟨hq1, hh1⟩ := hU; have z0 : _ = some (Value.int .i64 base) := hq1.cell 0; have z1 : _ = some (Value.int .i64 cap) := hq1.cell 1; obtain ⟨z2, z3, z4, z5, z6, z7, z8⟩ := hh1.c7; go_simp⟩) hS0 ?_
  simp only [Act.put, List.setIfInBounds_toArray, List.set_cons_zero, List.set_cons_succ]
  refine take_at (i := 3) (d := 147) (v := .int .i64 ((base : Int) + 1)) rfl rfl (by kernel_rfl) (by kernel_rfl) (by kernel_rfl) (fun _ _ _ h => h) (.inl ⟨by kernel_rfl, fun U hU => by obtain ⟨hq1, hh1⟩ := hU; have z0 : _ = some (Value.int .i64 base) := hq1.cell 0; have z1 : _ = some (Value.int .i64 cap) := hq1.cell 1; obtain ⟨z2, z3, z4, z5, z6, z7, z8⟩ := hh1.c7; go_simp⟩) hS0 ?_
  simp only [Act.put, List.setIfInBounds_toArray, List.set_cons_zero, List.set_cons_succ]
  refine take_at (i := 4) (d := 148) (v := .pointer (some ⟨w.heap.size + 1, 3, none⟩)) rfl rfl (by kernel_rfl) (by kernel_rfl) (by kernel_rfl) (fun _ _ _ h => h) (.inl ⟨by kernel_rfl, fun U hU => by obtain ⟨hq1, hh1⟩ := hU; have z0 : _ = some (Value.int .i64 base) := hq1.cell 0; have z1 : _ = some (Value.int .i64 cap) := hq1.cell 1; obtain ⟨z2, z3, z4, z5, z6, z7, z8⟩ := hh1.c7; go_simp⟩) hS0 ?_
  simp only [Act.put, List.setIfInBounds_toArray, List.set_cons_zero, List.set_cons_succ]
  refine take_at (i := 5) (d := 149) (v := .int .i64 t) rfl rfl (by kernel_rfl) (by kernel_rfl) (by kernel_rfl) (fun _ _ _ h => h) (.inl ⟨by kernel_rfl, fun U hU => by obtain ⟨hq1, hh1⟩ := hU; have z0 : _ = some (Value.int .i64 base) := hq1.cell 0; have z1 : _ = some (Value.int .i64 cap) := hq1.cell 1; obtain ⟨z2, z3, z4, z5, z6, z7, z8⟩ := hh1.c7; go_simp⟩) hS0 ?_
  simp only [Act.put, List.setIfInBounds_toArray, List.set_cons_zero, List.set_cons_succ]
  refine take_at (i := 6) (d := 150) (v := .int .i64 (t + 1)) rfl rfl (by kernel_rfl) (by kernel_rfl) (by kernel_rfl) (fun _ _ _ h => h) (.inl ⟨by kernel_rfl, fun U hU => by obtain ⟨hq1, hh1⟩ := hU; have z0 : _ = some (Value.int .i64 base) := hq1.cell 0; have z1 : _ = some (Value.int .i64 cap) := hq1.cell 1; obtain ⟨z2, z3, z4, z5, z6, z7, z8⟩ := hh1.c7; go_simp⟩) hS0 ?_
  simp only [Act.put, List.setIfInBounds_toArray, List.set_cons_zero, List.set_cons_succ]
  refine take_at (i := 8) (d := 152) (v := .agg #[.int .i64 2, .int .i64 6, .int .i64 v, .int .i64 t, .int .i64 b, .bool true, .int .i64 0]) rfl rfl (by kernel_rfl) (by kernel_rfl) (by kernel_rfl) (fun _ _ _ h => h) (.inl ⟨by kernel_rfl, fun U hU => by obtain ⟨hq1, hh1⟩ := hU; have z0 : _ = some (Value.int .i64 base) := hq1.cell 0; have z1 : _ = some (Value.int .i64 cap) := hq1.cell 1; obtain ⟨z2, z3, z4, z5, z6, z7, z8⟩ := hh1.c7; go_simp⟩) hS0 ?_
  simp only [Act.put, List.setIfInBounds_toArray, List.set_cons_zero, List.set_cons_succ]
  refine take_at (i := 9) (d := 153) (v := .int .i64 1) rfl rfl (by kernel_rfl) (by kernel_rfl) (by kernel_rfl) (fun _ _ _ h => h) (.inl ⟨by kernel_rfl, fun U hU => by obtain ⟨hq1, hh1⟩ := hU; have z0 : _ = some (Value.int .i64 base) := hq1.cell 0; have z1 : _ = some (Value.int .i64 cap) := hq1.cell 1; obtain ⟨z2, z3, z4, z5, z6, z7, z8⟩ := hh1.c7; go_simp⟩) hS0 ?_
  simp only [Act.put, List.setIfInBounds_toArray, List.set_cons_zero, List.set_cons_succ]
  refine wpAnyH_all (rs := [7]) (by kernel_rfl) (by simp) ?_
  intro i hi
  simp only [List.mem_cons, List.not_mem_nil, or_false] at hi
  subst hi
  unfold wpOp
  go_simp
  left
  refine (with_at _ _ _ ms _ hO0.ints (base + 1) _ (by omega) (by omega) (t + 1) ft1).mono ?_
  rintro e U1 ⟨A1, c1, rfl, o1, b1⟩
  have hS1 := hS0.below b1
  have hR1 := hR0.below b1
  have hB1 := below3 hB0 b1
  obtain ⟨g1, rfl, hg1, -, -, -⟩ := o1.form (by rw [List.length_set]; omega)
  have hO1 := o1.base (show B ≤ U0.heap.size by have := hR0.r.lt; omega)
  have hgn : g1 ≠ w.heap.size + 1 + 1 := (by have := hR0.r.lt; omega)
  refine ⟨hS1, ?_⟩
  clear b1 hS0 hR0 hB0 hO0
  try simp only [Act.put, List.setIfInBounds_toArray, List.set_cons_zero, List.set_cons_succ]
  refine wpAnyH_all (rs := [10]) (by kernel_rfl) (by simp) ?_
  intro i hi
  simp only [List.mem_cons, List.not_mem_nil, or_false] at hi
  subst hi
  unfold wpOp
  go_simp
  left
  refine (ended7 2 6 v t b true 0 1 _).mono ?_
  rintro e U2 ⟨rfl, b1⟩
  have hS2 := hS1.below b1
  have hR2 := hR1.below b1
  have hB2 := below3 hB1 b1
  have hO2 := hO1.below b1
  refine ⟨hS2, ?_⟩
  clear b1 hS1 hR1 hB1 hO1
  try simp only [Act.put, List.setIfInBounds_toArray, List.set_cons_zero, List.set_cons_succ]
  refine take_at (i := 11) (d := 6) (v := .slice (some ⟨g1, 0, none⟩) (ms.set (base + 1) (t + 1)).length c1) rfl rfl (by kernel_rfl) (by kernel_rfl) (by kernel_rfl) (fun _ _ _ h => h) (.inl ⟨by kernel_rfl, fun U hU => by go_simp⟩) hS2 ?_
  simp only [Act.put, List.setIfInBounds_toArray, List.set_cons_zero, List.set_cons_succ]
  obtain ⟨q0, q1, q2, q3, q4, q5, q6⟩ := hR2.r.c7
  obtain ⟨f0, f1, f2, f3, f4, f5, f6⟩ := hR2.r.f7
  have lr := hR2.r.lt
  have B2 := Lib.hid (below_set7 hB2 (by omega : w.heap.size ≤ w.heap.size + 1 + 1) (.int .i64 2) (.int .i64 6) (.int .i64 v) (.int .i64 t) (.int .i64 b) (.bool true) (.int .i64 1))
  have K2 := Lib.hid (bk_set7 hR2.r (.int .i64 2) (.int .i64 6) (.int .i64 v) (.int .i64 t) (.int .i64 b) (.bool true) (.int .i64 1))
  have hS9 := Lib.hid (hS2.far7 (.int .i64 2) (.int .i64 6) (.int .i64 v) (.int .i64 t) (.int .i64 b) (.bool true) (.int .i64 1))
  have O2 := Lib.hid (own_far7 hO2 hgn (.int .i64 2) (.int .i64 6) (.int .i64 v) (.int .i64 t) (.int .i64 b) (.bool true) (.int .i64 1))
  unfold set7 at hS9
  refine wpAnyH_all (rs := [12]) (by kernel_rfl) (by simp) ?_
  intro i hi
  simp only [List.mem_cons, List.not_mem_nil, or_false] at hi
  subst hi
  unfold wpOp
  go_simp
  left
  refine ⟨hS9.out, ?_⟩
  clear q0 q1 q2 q3 q4 q5 q6 f0 f1 f2 f3 f4 f5 f6 lr
  refine take_at (i := 13) (d := 8) (v := .bool true) rfl rfl (by kernel_rfl) (by kernel_rfl) (by kernel_rfl) (fun _ _ _ h => h) (.inl ⟨by kernel_rfl, fun U hU => by go_simp⟩) hS9.out ?_
  simp only [Act.put, List.setIfInBounds_toArray, List.set_cons_zero, List.set_cons_succ]
  refine wpAnyH_done (by kernel_rfl) ?_ _
  clear hS2 hR2 hB2 hO2
  go_wp2
  obtain ⟨r0, r1, r2, r3, r4, r5, r6⟩ := K2.out.c7
  unfold set7 at r0 r1 r2 r3 r4 r5 r6
  exact bodyPost_ret (v := .tuple #[.slice (some ⟨g1, 0, none⟩) (ms.set (base + 1) (t + 1)).length c1, .agg #[.int .i64 2, .int .i64 6, .int .i64 v, .int .i64 t, .int .i64 b, .bool true, .int .i64 1], .bool true]) (by simp [results, Try.results24, go_sem, r0, r1, r2, r3, r4, r5, r6]) rfl ⟨_, _, rfl, O2.out, B2.out⟩

set_option maxRecDepth 100000 in
set_option maxHeartbeats 2000000 in
theorem rpop6f (c base cap gA B : Nat) (ms : List Int) (v t b : Int) (w : World) (hBw : B ≤ w.heap.size) (hx : OwnI 2 w B (some ⟨gA, 0, none⟩) c ms) (hgA : gA < w.heap.size) (hlen : base + 2 + cap ≤ ms.length) (hbig : ms.length ≤ 65536) (hc1 : 1 ≤ cap) (hc2 : cap ≤ 1024) (ht0 : 0 ≤ t) (ht1 : t ≤ 1099511627776) (hwt : IntKind.i64.wrap (t + 1) = t + 1) (ft1 : Fit (t + 1)) :
    Calls Try.prog 24 #[.slice (some ⟨gA, 0, none⟩) ms.length c, .agg #[.int .i64 base, .int .i64 cap], .agg #[.int .i64 2, .int .i64 6, .int .i64 v, .int .i64 t, .int .i64 b, .bool false, .int .i64 0]] w (RetMO B (ms.set (base + 1) (t + 1)) ⟨2, 6, v, t, b, false, 2⟩ true w) := by
  have := hBw
  clear this
  have := hbig
  clear this
  have := hlen
  clear this
  have := hc1
  clear this
  have := hc2
  clear this
  have := hgA
  clear this
  have := ht0
  clear this
  have := ht1
  clear this
  have := hwt
  clear this
  have := ft1
  clear this
  have hwB : IntKind.i64.wrap ((base : Int) + 1) = (base : Int) + 1 := by rw [IntKind.wrap_i64]; omega
  have HX0 := Lib.hid hx
  have hi0 : base < ms.length := by omega
  have hi1 : base + 1 < ms.length := by omega
  obtain ⟨hS, hR, hB⟩ := three_is w base cap 2 6 v t b false 0
  have HX := Lib.hid (hx.below hB)
  have a0 : _ = some (Value.int .i64 base) := hS.q.cell 0
  have a1 : _ = some (Value.int .i64 cap) := hS.q.cell 1
  obtain ⟨ah0, ah1, ah2, ah3, ah4, ah5, ah6⟩ := hS.h.c7
  unfold three at a0 a1 ah0 ah1 ah2 ah3 ah4 ah5 ah6
  clear hS hR hB HX
  clear hx
  go_enter Try.func24, Try.ntmps24
  go_wp2_with fail
  clear a0 a1 ah0 ah1 ah2 ah3 ah4 ah5 ah6
  obtain ⟨hS0, hR0, hB0⟩ := three_is w base cap 2 6 v t b false 0
  have hO0 := HX0.out.below hB0
  have hS0 := hS0.drew
  have hR0 := hR0.drew
  have hB0 := hB0.drew
  have hO0 := hO0.below (Below.refl _ _).drew
  refine wp_region_held (S := SBox w.heap.size base cap 2 6 v t b false 0) (by kernel_rfl) ?_
  change wpAnyH _ _ _ _ _ _ _ _ (World.drew (three w base cap 2 6 v t b false 0))
  generalize (three w base cap 2 6 v t b false 0).drew = U0 at hS0 hR0 hB0 hO0 ⊢
  refine take_at (i := 0) (d := 144) (v := .slice (some ⟨gA, 0, none⟩) ms.length c) rfl rfl (by kernel_rfl) (by kernel_rfl) (by kernel_rfl) (fun _ _ _ h => h) (.inl ⟨by kernel_rfl, fun U hU => by obtain ⟨hq1, hh1⟩ := hU; have z0 : _ = some (Value.int .i64 base) := hq1.cell 0; have z1 : _ = some (Value.int .i64 cap) := hq1.cell 1; obtain ⟨z2, z3, z4, z5, z6, z7, z8⟩ := hh1.c7; go_simp⟩) hS0 ?_
  simp only [Act.put, List.setIfInBounds_toArray, List.set_cons_zero, List.set_cons_succ]
  refine take_at (i := 1) (d := 145) (v := .pointer (some ⟨w.heap.size, 0, none⟩)) rfl rfl (by kernel_rfl) (by kernel_rfl) (by kernel_rfl) (fun _ _ _ h => h) (.inl ⟨by kernel_rfl, fun U hU => by obtain ⟨hq1, hh1⟩ := hU; have z0 : _ = some (Value.int .i64 base) := hq1.cell 0; have z1 : _ = some (Value.int .i64 cap) := hq1.cell 1; obtain ⟨z2, z3, z4, z5, z6, z7, z8⟩ := hh1.c7; go_simp⟩) hS0 ?_
  simp only [Act.put, List.setIfInBounds_toArray, List.set_cons_zero, List.set_cons_succ]
  refine take_at (i := 2) (d := 146) (v := .int .i64 base) rfl rfl (by kernel_rfl) (by kernel_rfl) (by kernel_rfl) (fun _ _ _ h => h) (.inl ⟨by kernel_rfl, fun U hU => by obtain ⟨hq1, hh1⟩ := hU; have z0 : _ = some (Value.int .i64 base) := hq1.cell 0; have z1 : _ = some (Value.int .i64 cap) := hq1.cell 1; obtain ⟨z2, z3, z4, z5, z6, z7, z8⟩ := hh1.c7; go_simp⟩) hS0 ?_
  simp only [Act.put, List.setIfInBounds_toArray, List.set_cons_zero, List.set_cons_succ]
  refine take_at (i := 3) (d := 147) (v := .int .i64 ((base : Int) + 1)) rfl rfl (by kernel_rfl) (by kernel_rfl) (by kernel_rfl) (fun _ _ _ h => h) (.inl ⟨by kernel_rfl, fun U hU => by obtain ⟨hq1, hh1⟩ := hU; have z0 : _ = some (Value.int .i64 base) := hq1.cell 0; have z1 : _ = some (Value.int .i64 cap) := hq1.cell 1; obtain ⟨z2, z3, z4, z5, z6, z7, z8⟩ := hh1.c7; go_simp⟩) hS0 ?_
  simp only [Act.put, List.setIfInBounds_toArray, List.set_cons_zero, List.set_cons_succ]
  refine take_at (i := 4) (d := 148) (v := .pointer (some ⟨w.heap.size + 1, 3, none⟩)) rfl rfl (by kernel_rfl) (by kernel_rfl) (by kernel_rfl) (fun _ _ _ h => h) (.inl ⟨by kernel_rfl, fun U hU => by obtain ⟨hq1, hh1⟩ := hU; have z0 : _ = some (Value.int .i64 base) := hq1.cell 0; have z1 : _ = some (Value.int .i64 cap) := hq1.cell 1; obtain ⟨z2, z3, z4, z5, z6, z7, z8⟩ := hh1.c7; go_simp⟩) hS0 ?_
  simp only [Act.put, List.setIfInBounds_toArray, List.set_cons_zero, List.set_cons_succ]
  refine take_at (i := 5) (d := 149) (v := .int .i64 t) rfl rfl (by kernel_rfl) (by kernel_rfl) (by kernel_rfl) (fun _ _ _ h => h) (.inl ⟨by kernel_rfl, fun U hU => by obtain ⟨hq1, hh1⟩ := hU; have z0 : _ = some (Value.int .i64 base) := hq1.cell 0; have z1 : _ = some (Value.int .i64 cap) := hq1.cell 1; obtain ⟨z2, z3, z4, z5, z6, z7, z8⟩ := hh1.c7; go_simp⟩) hS0 ?_
  simp only [Act.put, List.setIfInBounds_toArray, List.set_cons_zero, List.set_cons_succ]
  refine take_at (i := 6) (d := 150) (v := .int .i64 (t + 1)) rfl rfl (by kernel_rfl) (by kernel_rfl) (by kernel_rfl) (fun _ _ _ h => h) (.inl ⟨by kernel_rfl, fun U hU => by obtain ⟨hq1, hh1⟩ := hU; have z0 : _ = some (Value.int .i64 base) := hq1.cell 0; have z1 : _ = some (Value.int .i64 cap) := hq1.cell 1; obtain ⟨z2, z3, z4, z5, z6, z7, z8⟩ := hh1.c7; go_simp⟩) hS0 ?_
  simp only [Act.put, List.setIfInBounds_toArray, List.set_cons_zero, List.set_cons_succ]
  refine take_at (i := 8) (d := 152) (v := .agg #[.int .i64 2, .int .i64 6, .int .i64 v, .int .i64 t, .int .i64 b, .bool false, .int .i64 0]) rfl rfl (by kernel_rfl) (by kernel_rfl) (by kernel_rfl) (fun _ _ _ h => h) (.inl ⟨by kernel_rfl, fun U hU => by obtain ⟨hq1, hh1⟩ := hU; have z0 : _ = some (Value.int .i64 base) := hq1.cell 0; have z1 : _ = some (Value.int .i64 cap) := hq1.cell 1; obtain ⟨z2, z3, z4, z5, z6, z7, z8⟩ := hh1.c7; go_simp⟩) hS0 ?_
  simp only [Act.put, List.setIfInBounds_toArray, List.set_cons_zero, List.set_cons_succ]
  refine take_at (i := 9) (d := 153) (v := .int .i64 2) rfl rfl (by kernel_rfl) (by kernel_rfl) (by kernel_rfl) (fun _ _ _ h => h) (.inl ⟨by kernel_rfl, fun U hU => by obtain ⟨hq1, hh1⟩ := hU; have z0 : _ = some (Value.int .i64 base) := hq1.cell 0; have z1 : _ = some (Value.int .i64 cap) := hq1.cell 1; obtain ⟨z2, z3, z4, z5, z6, z7, z8⟩ := hh1.c7; go_simp⟩) hS0 ?_
  simp only [Act.put, List.setIfInBounds_toArray, List.set_cons_zero, List.set_cons_succ]
  refine wpAnyH_all (rs := [7]) (by kernel_rfl) (by simp) ?_
  intro i hi
  simp only [List.mem_cons, List.not_mem_nil, or_false] at hi
  subst hi
  unfold wpOp
  go_simp
  left
  refine (with_at _ _ _ ms _ hO0.ints (base + 1) _ (by omega) (by omega) (t + 1) ft1).mono ?_
  rintro e U1 ⟨A1, c1, rfl, o1, b1⟩
  have hS1 := hS0.below b1
  have hR1 := hR0.below b1
  have hB1 := below3 hB0 b1
  obtain ⟨g1, rfl, hg1, -, -, -⟩ := o1.form (by rw [List.length_set]; omega)
  have hO1 := o1.base (show B ≤ U0.heap.size by have := hR0.r.lt; omega)
  have hgn : g1 ≠ w.heap.size + 1 + 1 := (by have := hR0.r.lt; omega)
  refine ⟨hS1, ?_⟩
  clear b1 hS0 hR0 hB0 hO0
  try simp only [Act.put, List.setIfInBounds_toArray, List.set_cons_zero, List.set_cons_succ]
  refine wpAnyH_all (rs := [10]) (by kernel_rfl) (by simp) ?_
  intro i hi
  simp only [List.mem_cons, List.not_mem_nil, or_false] at hi
  subst hi
  unfold wpOp
  go_simp
  left
  refine (ended7 2 6 v t b false 0 2 _).mono ?_
  rintro e U2 ⟨rfl, b1⟩
  have hS2 := hS1.below b1
  have hR2 := hR1.below b1
  have hB2 := below3 hB1 b1
  have hO2 := hO1.below b1
  refine ⟨hS2, ?_⟩
  clear b1 hS1 hR1 hB1 hO1
  try simp only [Act.put, List.setIfInBounds_toArray, List.set_cons_zero, List.set_cons_succ]
  refine take_at (i := 11) (d := 6) (v := .slice (some ⟨g1, 0, none⟩) (ms.set (base + 1) (t + 1)).length c1) rfl rfl (by kernel_rfl) (by kernel_rfl) (by kernel_rfl) (fun _ _ _ h => h) (.inl ⟨by kernel_rfl, fun U hU => by go_simp⟩) hS2 ?_
  simp only [Act.put, List.setIfInBounds_toArray, List.set_cons_zero, List.set_cons_succ]
  obtain ⟨q0, q1, q2, q3, q4, q5, q6⟩ := hR2.r.c7
  obtain ⟨f0, f1, f2, f3, f4, f5, f6⟩ := hR2.r.f7
  have lr := hR2.r.lt
  have B2 := Lib.hid (below_set7 hB2 (by omega : w.heap.size ≤ w.heap.size + 1 + 1) (.int .i64 2) (.int .i64 6) (.int .i64 v) (.int .i64 t) (.int .i64 b) (.bool false) (.int .i64 2))
  have K2 := Lib.hid (bk_set7 hR2.r (.int .i64 2) (.int .i64 6) (.int .i64 v) (.int .i64 t) (.int .i64 b) (.bool false) (.int .i64 2))
  have hS9 := Lib.hid (hS2.far7 (.int .i64 2) (.int .i64 6) (.int .i64 v) (.int .i64 t) (.int .i64 b) (.bool false) (.int .i64 2))
  have O2 := Lib.hid (own_far7 hO2 hgn (.int .i64 2) (.int .i64 6) (.int .i64 v) (.int .i64 t) (.int .i64 b) (.bool false) (.int .i64 2))
  unfold set7 at hS9
  refine wpAnyH_all (rs := [12]) (by kernel_rfl) (by simp) ?_
  intro i hi
  simp only [List.mem_cons, List.not_mem_nil, or_false] at hi
  subst hi
  unfold wpOp
  go_simp
  left
  refine ⟨hS9.out, ?_⟩
  clear q0 q1 q2 q3 q4 q5 q6 f0 f1 f2 f3 f4 f5 f6 lr
  refine take_at (i := 13) (d := 8) (v := .bool true) rfl rfl (by kernel_rfl) (by kernel_rfl) (by kernel_rfl) (fun _ _ _ h => h) (.inl ⟨by kernel_rfl, fun U hU => by go_simp⟩) hS9.out ?_
  simp only [Act.put, List.setIfInBounds_toArray, List.set_cons_zero, List.set_cons_succ]
  refine wpAnyH_done (by kernel_rfl) ?_ _
  clear hS2 hR2 hB2 hO2
  go_wp2
  obtain ⟨r0, r1, r2, r3, r4, r5, r6⟩ := K2.out.c7
  unfold set7 at r0 r1 r2 r3 r4 r5 r6
  exact bodyPost_ret (v := .tuple #[.slice (some ⟨g1, 0, none⟩) (ms.set (base + 1) (t + 1)).length c1, .agg #[.int .i64 2, .int .i64 6, .int .i64 v, .int .i64 t, .int .i64 b, .bool false, .int .i64 2], .bool true]) (by simp [results, Try.results24, go_sem, r0, r1, r2, r3, r4, r5, r6]) rfl ⟨_, _, rfl, O2.out, B2.out⟩

set_option maxRecDepth 100000 in
set_option maxHeartbeats 2000000 in
theorem rpop4dn (c base cap gA B : Nat) (ms : List Int) (v t b : Int) (wn : Bool) (y : Int) (w : World) (hBw : B ≤ w.heap.size) (hx : OwnI 2 w B (some ⟨gA, 0, none⟩) c ms) (hgA : gA < w.heap.size) (hlen : base + 2 + cap ≤ ms.length) (hbig : ms.length ≤ 65536) (hc1 : 1 ≤ cap) (hc2 : cap ≤ 1024) (hy : nth ms (slI base cap b) = y) (ht0 : t < 0) (hb0 : 0 ≤ b) (hf : t < b) :
    Calls Try.prog 24 #[.slice (some ⟨gA, 0, none⟩) ms.length c, .agg #[.int .i64 base, .int .i64 cap], .agg #[.int .i64 2, .int .i64 4, .int .i64 v, .int .i64 t, .int .i64 b, .bool wn, .int .i64 0]] w (RetMO B ms ⟨2, 4, y, t, b, wn, 1⟩ true w) := by
  have := hBw
  clear this
  have := hbig
  clear this
  have := hlen
  clear this
  have := hc1
  clear this
  have := hc2
  clear this
  have := hgA
  clear this
  have := hy
  clear this
  have := ht0
  clear this
  have := hb0
  clear this
  have := hf
  clear this
  have hwB : IntKind.i64.wrap ((base : Int) + 1) = (base : Int) + 1 := by rw [IntKind.wrap_i64]; omega
  have HX0 := Lib.hid hx
  have hi0 : base < ms.length := by omega
  have hi1 : base + 1 < ms.length := by omega
  obtain ⟨hS, hR, hB⟩ := three_is w base cap 2 4 v t b wn 0
  have HX := Lib.hid (hx.below hB)
  have a0 : _ = some (Value.int .i64 base) := hS.q.cell 0
  have a1 : _ = some (Value.int .i64 cap) := hS.q.cell 1
  obtain ⟨ah0, ah1, ah2, ah3, ah4, ah5, ah6⟩ := hS.h.c7
  unfold three at a0 a1 ah0 ah1 ah2 ah3 ah4 ah5 ah6
  clear hS hR hB HX
  clear hx
  go_enter Try.func24, Try.ntmps24
  have A0 := Lib.hid (AllB.start (base := base) (cap := cap) (B := B) (gA := gA) (c := c) (ms := ms) (w := w) 2 4 v t b wn 0 HX0.out)
  obtain ⟨j, hj⟩ : ∃ j, slI base cap b = j := ⟨_, rfl⟩
  have hjl : j < ms.length := by have := slI_lt base cap b hc1; omega
  rw [hj] at hy
  have HJ := Lib.hid hj
  clear hj
  go_wp2_with fail
  refine (slot_any base cap b _ (by omega) hc1 hc2 (by assumption)).mono ?_
  rw [HJ.out]
  rintro e U1 ⟨rfl, b1⟩
  have A1 := Lib.hid (A0.out.below b1)
  clear a0 a1 ah0 ah1 ah2 ah3 ah4 ah5 ah6 b1 A0
  have zq0 : _ = some (Value.int .i64 base) := A1.out.s.q.cell 0
  have zq1 : _ = some (Value.int .i64 cap) := A1.out.s.q.cell 1
  obtain ⟨zh0, zh1, zh2, zh3, zh4, zh5, zh6⟩ := A1.out.s.h.c7
  have zlq := A1.out.s.q.lt
  have zlh := A1.out.s.h.lt
  have f2 := A1.out.s.h.frozen 2
  have mj := (A1.out.o.at_ hjl).1
  rw [hy] at mj
  have AV := A1.out.setV hgA y
  obtain ⟨V, hV⟩ : ∃ V, U1.setCell ⟨w.heap.size + 1, 2, none⟩ (.int .i64 y) = V := ⟨_, rfl⟩
  rw [hV] at AV
  have AV := Lib.hid AV
  have HV := Lib.hid hV
  clear hV
  go_upto_region 20 with fail
  rw [HV.out]
  clear HV f2 mj A1 zq0 zq1 zh0 zh1 zh2 zh3 zh4 zh5 zh6 zlq zlh
  have zq0 : _ = some (Value.int .i64 base) := AV.out.s.q.cell 0
  have zq1 : _ = some (Value.int .i64 cap) := AV.out.s.q.cell 1
  obtain ⟨zh0, zh1, zh2, zh3, zh4, zh5, zh6⟩ := AV.out.s.h.c7
  have zlq := AV.out.s.q.lt
  have zlh := AV.out.s.h.lt
  go_wp2_with fail
  refine (ended7 2 4 y t b wn 0 1 _).mono ?_
  rintro e U9 ⟨rfl, b9⟩
  clear zq0 zq1 zh0 zh1 zh2 zh3 zh4 zh5 zh6 zlq zlh
  have A9 := AV.out.below b9
  have O9 := A9.o
  clear b9
  obtain ⟨q0, q1, q2, q3, q4, q5, q6⟩ := A9.r.r.c7
  obtain ⟨f0, f1, f2, f3, f4, f5, f6⟩ := A9.r.r.f7
  have lr := A9.r.r.lt
  have B2 := Lib.hid (below_set7 A9.bl (by omega : w.heap.size ≤ w.heap.size + 1 + 1) (.int .i64 2) (.int .i64 4) (.int .i64 y) (.int .i64 t) (.int .i64 b) (.bool wn) (.int .i64 1))
  have K2 := Lib.hid (bk_set7 A9.r.r (.int .i64 2) (.int .i64 4) (.int .i64 y) (.int .i64 t) (.int .i64 b) (.bool wn) (.int .i64 1))
  have O2 := Lib.hid (own_far7 O9 (by omega : gA ≠ w.heap.size + 1 + 1) (.int .i64 2) (.int .i64 4) (.int .i64 y) (.int .i64 t) (.int .i64 b) (.bool wn) (.int .i64 1))
  clear A9 O9
  go_wp2
  obtain ⟨r0, r1, r2, r3, r4, r5, r6⟩ := K2.out.c7
  unfold set7 at r0 r1 r2 r3 r4 r5 r6
  exact bodyPost_ret (v := .tuple #[.slice (some ⟨gA, 0, none⟩) ms.length c, .agg #[.int .i64 2, .int .i64 4, .int .i64 y, .int .i64 t, .int .i64 b, .bool wn, .int .i64 1], .bool true]) (by simp [results, Try.results24, go_sem, r0, r1, r2, r3, r4, r5, r6]) rfl ⟨_, _, rfl, O2.out, B2.out⟩

set_option maxRecDepth 100000 in
set_option maxHeartbeats 2000000 in
theorem rpop4dp (c base cap gA B : Nat) (ms : List Int) (v t b : Int) (wn : Bool) (y : Int) (w : World) (hBw : B ≤ w.heap.size) (hx : OwnI 2 w B (some ⟨gA, 0, none⟩) c ms) (hgA : gA < w.heap.size) (hlen : base + 2 + cap ≤ ms.length) (hbig : ms.length ≤ 65536) (hc1 : 1 ≤ cap) (hc2 : cap ≤ 1024) (hy : nth ms (slI base cap b) = y) (ht0 : 0 ≤ t) (hb0 : 0 ≤ b) (hf : t < b) :
    Calls Try.prog 24 #[.slice (some ⟨gA, 0, none⟩) ms.length c, .agg #[.int .i64 base, .int .i64 cap], .agg #[.int .i64 2, .int .i64 4, .int .i64 v, .int .i64 t, .int .i64 b, .bool wn, .int .i64 0]] w (RetMO B ms ⟨2, 4, y, t, b, wn, 1⟩ true w) := by
  have := hBw
  clear this
  have := hbig
  clear this
  have := hlen
  clear this
  have := hc1
  clear this
  have := hc2
  clear this
  have := hgA
  clear this
  have := hy
  clear this
  have := ht0
  clear this
  have := hb0
  clear this
  have := hf
  clear this
  have hwB : IntKind.i64.wrap ((base : Int) + 1) = (base : Int) + 1 := by rw [IntKind.wrap_i64]; omega
  have HX0 := Lib.hid hx
  have hi0 : base < ms.length := by omega
  have hi1 : base + 1 < ms.length := by omega
  obtain ⟨hS, hR, hB⟩ := three_is w base cap 2 4 v t b wn 0
  have HX := Lib.hid (hx.below hB)
  have a0 : _ = some (Value.int .i64 base) := hS.q.cell 0
  have a1 : _ = some (Value.int .i64 cap) := hS.q.cell 1
  obtain ⟨ah0, ah1, ah2, ah3, ah4, ah5, ah6⟩ := hS.h.c7
  unfold three at a0 a1 ah0 ah1 ah2 ah3 ah4 ah5 ah6
  clear hS hR hB HX
  clear hx
  go_enter Try.func24, Try.ntmps24
  have A0 := Lib.hid (AllB.start (base := base) (cap := cap) (B := B) (gA := gA) (c := c) (ms := ms) (w := w) 2 4 v t b wn 0 HX0.out)
  obtain ⟨j, hj⟩ : ∃ j, slI base cap b = j := ⟨_, rfl⟩
  have hjl : j < ms.length := by have := slI_lt base cap b hc1; omega
  rw [hj] at hy
  have HJ := Lib.hid hj
  clear hj
  go_wp2_with fail
  refine (slot_any base cap b _ (by omega) hc1 hc2 (by assumption)).mono ?_
  rw [HJ.out]
  rintro e U1 ⟨rfl, b1⟩
  have A1 := Lib.hid (A0.out.below b1)
  clear a0 a1 ah0 ah1 ah2 ah3 ah4 ah5 ah6 b1 A0
  have zq0 : _ = some (Value.int .i64 base) := A1.out.s.q.cell 0
  have zq1 : _ = some (Value.int .i64 cap) := A1.out.s.q.cell 1
  obtain ⟨zh0, zh1, zh2, zh3, zh4, zh5, zh6⟩ := A1.out.s.h.c7
  have zlq := A1.out.s.q.lt
  have zlh := A1.out.s.h.lt
  have f2 := A1.out.s.h.frozen 2
  have mj := (A1.out.o.at_ hjl).1
  rw [hy] at mj
  have AV := A1.out.setV hgA y
  obtain ⟨V, hV⟩ : ∃ V, U1.setCell ⟨w.heap.size + 1, 2, none⟩ (.int .i64 y) = V := ⟨_, rfl⟩
  rw [hV] at AV
  have AV := Lib.hid AV
  have HV := Lib.hid hV
  clear hV
  go_upto_region 20 with fail
  rw [HV.out]
  clear HV f2 mj A1 zq0 zq1 zh0 zh1 zh2 zh3 zh4 zh5 zh6 zlq zlh
  have zq0 : _ = some (Value.int .i64 base) := AV.out.s.q.cell 0
  have zq1 : _ = some (Value.int .i64 cap) := AV.out.s.q.cell 1
  obtain ⟨zh0, zh1, zh2, zh3, zh4, zh5, zh6⟩ := AV.out.s.h.c7
  have zlq := AV.out.s.q.lt
  have zlh := AV.out.s.h.lt
  go_wp2_with fail
  refine (ended7 2 4 y t b wn 0 1 _).mono ?_
  rintro e U9 ⟨rfl, b9⟩
  clear zq0 zq1 zh0 zh1 zh2 zh3 zh4 zh5 zh6 zlq zlh
  have A9 := AV.out.below b9
  have O9 := A9.o
  clear b9
  obtain ⟨q0, q1, q2, q3, q4, q5, q6⟩ := A9.r.r.c7
  obtain ⟨f0, f1, f2, f3, f4, f5, f6⟩ := A9.r.r.f7
  have lr := A9.r.r.lt
  have B2 := Lib.hid (below_set7 A9.bl (by omega : w.heap.size ≤ w.heap.size + 1 + 1) (.int .i64 2) (.int .i64 4) (.int .i64 y) (.int .i64 t) (.int .i64 b) (.bool wn) (.int .i64 1))
  have K2 := Lib.hid (bk_set7 A9.r.r (.int .i64 2) (.int .i64 4) (.int .i64 y) (.int .i64 t) (.int .i64 b) (.bool wn) (.int .i64 1))
  have O2 := Lib.hid (own_far7 O9 (by omega : gA ≠ w.heap.size + 1 + 1) (.int .i64 2) (.int .i64 4) (.int .i64 y) (.int .i64 t) (.int .i64 b) (.bool wn) (.int .i64 1))
  clear A9 O9
  go_wp2
  obtain ⟨r0, r1, r2, r3, r4, r5, r6⟩ := K2.out.c7
  unfold set7 at r0 r1 r2 r3 r4 r5 r6
  exact bodyPost_ret (v := .tuple #[.slice (some ⟨gA, 0, none⟩) ms.length c, .agg #[.int .i64 2, .int .i64 4, .int .i64 y, .int .i64 t, .int .i64 b, .bool wn, .int .i64 1], .bool true]) (by simp [results, Try.results24, go_sem, r0, r1, r2, r3, r4, r5, r6]) rfl ⟨_, _, rfl, O2.out, B2.out⟩

set_option maxRecDepth 100000 in
set_option maxHeartbeats 2000000 in
theorem rpop4op (c base cap gA B : Nat) (ms : List Int) (v t b : Int) (wn : Bool) (y : Int) (w : World) (hBw : B ≤ w.heap.size) (hx : OwnI 2 w B (some ⟨gA, 0, none⟩) c ms) (hgA : gA < w.heap.size) (hlen : base + 2 + cap ≤ ms.length) (hbig : ms.length ≤ 65536) (hc1 : 1 ≤ cap) (hc2 : cap ≤ 1024) (hy : nth ms (slI base cap b) = y) (ht0 : 0 ≤ t) (hb0 : 0 ≤ b) (hf : ¬ t < b) :
    Calls Try.prog 24 #[.slice (some ⟨gA, 0, none⟩) ms.length c, .agg #[.int .i64 base, .int .i64 cap], .agg #[.int .i64 2, .int .i64 4, .int .i64 v, .int .i64 t, .int .i64 b, .bool wn, .int .i64 0]] w (RetMO B ms ⟨2, 5, y, t, b, wn, 0⟩ true w) := by
  have := hBw
  clear this
  have := hbig
  clear this
  have := hlen
  clear this
  have := hc1
  clear this
  have := hc2
  clear this
  have := hgA
  clear this
  have := hy
  clear this
  have := ht0
  clear this
  have := hb0
  clear this
  have := hf
  clear this
  have hwB : IntKind.i64.wrap ((base : Int) + 1) = (base : Int) + 1 := by rw [IntKind.wrap_i64]; omega
  have HX0 := Lib.hid hx
  have hi0 : base < ms.length := by omega
  have hi1 : base + 1 < ms.length := by omega
  obtain ⟨hS, hR, hB⟩ := three_is w base cap 2 4 v t b wn 0
  have HX := Lib.hid (hx.below hB)
  have a0 : _ = some (Value.int .i64 base) := hS.q.cell 0
  have a1 : _ = some (Value.int .i64 cap) := hS.q.cell 1
  obtain ⟨ah0, ah1, ah2, ah3, ah4, ah5, ah6⟩ := hS.h.c7
  unfold three at a0 a1 ah0 ah1 ah2 ah3 ah4 ah5 ah6
  clear hS hR hB HX
  clear hx
  go_enter Try.func24, Try.ntmps24
  have A0 := Lib.hid (AllB.start (base := base) (cap := cap) (B := B) (gA := gA) (c := c) (ms := ms) (w := w) 2 4 v t b wn 0 HX0.out)
  obtain ⟨j, hj⟩ : ∃ j, slI base cap b = j := ⟨_, rfl⟩
  have hjl : j < ms.length := by have := slI_lt base cap b hc1; omega
  rw [hj] at hy
  have HJ := Lib.hid hj
  clear hj
  go_wp2_with fail
  refine (slot_any base cap b _ (by omega) hc1 hc2 (by assumption)).mono ?_
  rw [HJ.out]
  rintro e U1 ⟨rfl, b1⟩
  have A1 := Lib.hid (A0.out.below b1)
  clear a0 a1 ah0 ah1 ah2 ah3 ah4 ah5 ah6 b1 A0
  have zq0 : _ = some (Value.int .i64 base) := A1.out.s.q.cell 0
  have zq1 : _ = some (Value.int .i64 cap) := A1.out.s.q.cell 1
  obtain ⟨zh0, zh1, zh2, zh3, zh4, zh5, zh6⟩ := A1.out.s.h.c7
  have zlq := A1.out.s.q.lt
  have zlh := A1.out.s.h.lt
  have f2 := A1.out.s.h.frozen 2
  have mj := (A1.out.o.at_ hjl).1
  rw [hy] at mj
  have AV := A1.out.setV hgA y
  obtain ⟨V, hV⟩ : ∃ V, U1.setCell ⟨w.heap.size + 1, 2, none⟩ (.int .i64 y) = V := ⟨_, rfl⟩
  rw [hV] at AV
  have AV := Lib.hid AV
  have HV := Lib.hid hV
  clear hV
  go_upto_region 20 with fail
  rw [HV.out]
  clear HV f2 mj A1 zq0 zq1 zh0 zh1 zh2 zh3 zh4 zh5 zh6 zlq zlh
  have zq0 : _ = some (Value.int .i64 base) := AV.out.s.q.cell 0
  have zq1 : _ = some (Value.int .i64 cap) := AV.out.s.q.cell 1
  obtain ⟨zh0, zh1, zh2, zh3, zh4, zh5, zh6⟩ := AV.out.s.h.c7
  have zlq := AV.out.s.q.lt
  have zlh := AV.out.s.h.lt
  go_wp2_with fail
  refine (at7 2 4 y t b wn 0 5 _).mono ?_
  rintro e U9 ⟨rfl, b9⟩
  clear zq0 zq1 zh0 zh1 zh2 zh3 zh4 zh5 zh6 zlq zlh
  have A9 := AV.out.below b9
  have O9 := A9.o
  clear b9
  obtain ⟨q0, q1, q2, q3, q4, q5, q6⟩ := A9.r.r.c7
  obtain ⟨f0, f1, f2, f3, f4, f5, f6⟩ := A9.r.r.f7
  have lr := A9.r.r.lt
  have B2 := Lib.hid (below_set7 A9.bl (by omega : w.heap.size ≤ w.heap.size + 1 + 1) (.int .i64 2) (.int .i64 5) (.int .i64 y) (.int .i64 t) (.int .i64 b) (.bool wn) (.int .i64 0))
  have K2 := Lib.hid (bk_set7 A9.r.r (.int .i64 2) (.int .i64 5) (.int .i64 y) (.int .i64 t) (.int .i64 b) (.bool wn) (.int .i64 0))
  have O2 := Lib.hid (own_far7 O9 (by omega : gA ≠ w.heap.size + 1 + 1) (.int .i64 2) (.int .i64 5) (.int .i64 y) (.int .i64 t) (.int .i64 b) (.bool wn) (.int .i64 0))
  clear A9 O9
  go_wp2
  obtain ⟨r0, r1, r2, r3, r4, r5, r6⟩ := K2.out.c7
  unfold set7 at r0 r1 r2 r3 r4 r5 r6
  exact bodyPost_ret (v := .tuple #[.slice (some ⟨gA, 0, none⟩) ms.length c, .agg #[.int .i64 2, .int .i64 5, .int .i64 y, .int .i64 t, .int .i64 b, .bool wn, .int .i64 0], .bool true]) (by simp [results, Try.results24, go_sem, r0, r1, r2, r3, r4, r5, r6]) rfl ⟨_, _, rfl, O2.out, B2.out⟩

set_option maxRecDepth 100000 in
set_option maxHeartbeats 2000000 in
theorem rpop5w (c base cap gA B : Nat) (ms : List Int) (v t b : Int) (wn : Bool) (y : Int) (w : World) (hBw : B ≤ w.heap.size) (hx : OwnI 2 w B (some ⟨gA, 0, none⟩) c ms) (hgA : gA < w.heap.size) (hlen : base + 2 + cap ≤ ms.length) (hbig : ms.length ≤ 65536) (hc1 : 1 ≤ cap) (hc2 : cap ≤ 1024) (hy : nth ms base = y) (hyt : (y == t) = true) (ht0 : 0 ≤ t) (ht1 : t ≤ 1099511627776) (hwt : IntKind.i64.wrap (t + 1) = t + 1) (ft1 : Fit (t + 1)) :
    Calls Try.prog 24 #[.slice (some ⟨gA, 0, none⟩) ms.length c, .agg #[.int .i64 base, .int .i64 cap], .agg #[.int .i64 2, .int .i64 5, .int .i64 v, .int .i64 t, .int .i64 b, .bool wn, .int .i64 0]] w (RetMO B (ms.set base (t + 1)) ⟨2, 6, v, t, b, true, 0⟩ true w) := by
  have := hBw
  clear this
  have := hbig
  clear this
  have := hlen
  clear this
  have := hc1
  clear this
  have := hc2
  clear this
  have := hgA
  clear this
  have := hy
  clear this
  have := hyt
  clear this
  have := ht0
  clear this
  have := ht1
  clear this
  have := hwt
  clear this
  have := ft1
  clear this
  have hwB : IntKind.i64.wrap ((base : Int) + 1) = (base : Int) + 1 := by rw [IntKind.wrap_i64]; omega
  have HX0 := Lib.hid hx
  have hi0 : base < ms.length := by omega
  have hi1 : base + 1 < ms.length := by omega
  obtain ⟨hS, hR, hB⟩ := three_is w base cap 2 5 v t b wn 0
  have HX := Lib.hid (hx.below hB)
  have a0 : _ = some (Value.int .i64 base) := hS.q.cell 0
  have a1 : _ = some (Value.int .i64 cap) := hS.q.cell 1
  obtain ⟨ah0, ah1, ah2, ah3, ah4, ah5, ah6⟩ := hS.h.c7
  have am0 := (HX.out.at_ (j := base) (by omega)).1; rw [hy] at am0
  unfold three at am0 a0 a1 ah0 ah1 ah2 ah3 ah4 ah5 ah6
  clear hS hR hB HX
  clear hx
  go_enter Try.func24, Try.ntmps24
  have A0 := AllB.start (base := base) (cap := cap) (B := B) (gA := gA) (c := c) (ms := ms) (w := w) 2 5 v t b wn 0 HX0.out
  go_wp2_with fail
  clear am0 a0 a1 ah0 ah1 ah2 ah3 ah4 ah5 ah6
  have A0 := A0.drew
  refine wp_region_held (S := SPop w.heap.size base cap gA 2 5 v t b 0 y) (by kernel_rfl) ?_
  change wpAnyH _ _ _ _ _ _ _ _ (World.drew (three w base cap 2 5 v t b wn 0))
  generalize (three w base cap 2 5 v t b wn 0).drew = U1 at A0 ⊢
  have hm0 := (A0.o.at_ (j := base) (by omega)).1
  rw [hy] at hm0
  have hS0 : SPop w.heap.size base cap gA 2 5 v t b 0 y U1 := ⟨_, A0.s, hm0⟩
  refine take_at (i := 0) (d := 121) (v := .slice (some ⟨gA, 0, none⟩) ms.length c) rfl rfl (by kernel_rfl) (by kernel_rfl) (by kernel_rfl) (fun _ _ _ h => h) (.inl ⟨by kernel_rfl, fun U hU => by obtain ⟨wn1, ⟨hq1, hh1⟩, hm1⟩ := hU; have z0 : _ = some (Value.int .i64 base) := hq1.cell 0; have z1 : _ = some (Value.int .i64 cap) := hq1.cell 1; obtain ⟨z2, z3, z4, z5, z6, z7, z8⟩ := hh1.c7; go_simp⟩) hS0 ?_
  simp only [Act.put, List.setIfInBounds_toArray, List.set_cons_zero, List.set_cons_succ]
  refine take_at (i := 1) (d := 122) (v := .pointer (some ⟨w.heap.size, 0, none⟩)) rfl rfl (by kernel_rfl) (by kernel_rfl) (by kernel_rfl) (fun _ _ _ h => h) (.inl ⟨by kernel_rfl, fun U hU => by obtain ⟨wn1, ⟨hq1, hh1⟩, hm1⟩ := hU; have z0 : _ = some (Value.int .i64 base) := hq1.cell 0; have z1 : _ = some (Value.int .i64 cap) := hq1.cell 1; obtain ⟨z2, z3, z4, z5, z6, z7, z8⟩ := hh1.c7; go_simp⟩) hS0 ?_
  simp only [Act.put, List.setIfInBounds_toArray, List.set_cons_zero, List.set_cons_succ]
  refine take_at (i := 2) (d := 123) (v := .int .i64 base) rfl rfl (by kernel_rfl) (by kernel_rfl) (by kernel_rfl) (fun _ _ _ h => h) (.inl ⟨by kernel_rfl, fun U hU => by obtain ⟨wn1, ⟨hq1, hh1⟩, hm1⟩ := hU; have z0 : _ = some (Value.int .i64 base) := hq1.cell 0; have z1 : _ = some (Value.int .i64 cap) := hq1.cell 1; obtain ⟨z2, z3, z4, z5, z6, z7, z8⟩ := hh1.c7; go_simp⟩) hS0 ?_
  simp only [Act.put, List.setIfInBounds_toArray, List.set_cons_zero, List.set_cons_succ]
  refine take_at (i := 3) (d := 124) (v := .pointer (some ⟨gA, base, none⟩)) rfl rfl (by kernel_rfl) (by kernel_rfl) (by kernel_rfl) (fun _ _ _ h => h) (.inl ⟨by kernel_rfl, fun U hU => by obtain ⟨wn1, ⟨hq1, hh1⟩, hm1⟩ := hU; have z0 : _ = some (Value.int .i64 base) := hq1.cell 0; have z1 : _ = some (Value.int .i64 cap) := hq1.cell 1; obtain ⟨z2, z3, z4, z5, z6, z7, z8⟩ := hh1.c7; go_simp⟩) hS0 ?_
  simp only [Act.put, List.setIfInBounds_toArray, List.set_cons_zero, List.set_cons_succ]
  refine take_at (i := 4) (d := 125) (v := .int .i64 y) rfl rfl (by kernel_rfl) (by kernel_rfl) (by kernel_rfl) (fun _ _ _ h => h) (.inl ⟨by kernel_rfl, fun U hU => by obtain ⟨wn1, ⟨hq1, hh1⟩, hm1⟩ := hU; have z0 : _ = some (Value.int .i64 base) := hq1.cell 0; have z1 : _ = some (Value.int .i64 cap) := hq1.cell 1; obtain ⟨z2, z3, z4, z5, z6, z7, z8⟩ := hh1.c7; go_simp⟩) hS0 ?_
  simp only [Act.put, List.setIfInBounds_toArray, List.set_cons_zero, List.set_cons_succ]
  refine take_at (i := 5) (d := 126) (v := .pointer (some ⟨w.heap.size + 1, 3, none⟩)) rfl rfl (by kernel_rfl) (by kernel_rfl) (by kernel_rfl) (fun _ _ _ h => h) (.inl ⟨by kernel_rfl, fun U hU => by obtain ⟨wn1, ⟨hq1, hh1⟩, hm1⟩ := hU; have z0 : _ = some (Value.int .i64 base) := hq1.cell 0; have z1 : _ = some (Value.int .i64 cap) := hq1.cell 1; obtain ⟨z2, z3, z4, z5, z6, z7, z8⟩ := hh1.c7; go_simp⟩) hS0 ?_
  simp only [Act.put, List.setIfInBounds_toArray, List.set_cons_zero, List.set_cons_succ]
  refine take_at (i := 6) (d := 127) (v := .int .i64 t) rfl rfl (by kernel_rfl) (by kernel_rfl) (by kernel_rfl) (fun _ _ _ h => h) (.inl ⟨by kernel_rfl, fun U hU => by obtain ⟨wn1, ⟨hq1, hh1⟩, hm1⟩ := hU; have z0 : _ = some (Value.int .i64 base) := hq1.cell 0; have z1 : _ = some (Value.int .i64 cap) := hq1.cell 1; obtain ⟨z2, z3, z4, z5, z6, z7, z8⟩ := hh1.c7; go_simp⟩) hS0 ?_
  simp only [Act.put, List.setIfInBounds_toArray, List.set_cons_zero, List.set_cons_succ]
  refine take_at (i := 7) (d := 128) (v := .bool true) rfl rfl (by kernel_rfl) (by kernel_rfl) (by kernel_rfl) (fun _ _ _ h => h) (.inl ⟨by kernel_rfl, fun U hU => by obtain ⟨wn1, ⟨hq1, hh1⟩, hm1⟩ := hU; have z0 : _ = some (Value.int .i64 base) := hq1.cell 0; have z1 : _ = some (Value.int .i64 cap) := hq1.cell 1; obtain ⟨z2, z3, z4, z5, z6, z7, z8⟩ := hh1.c7; go_simp⟩) hS0 ?_
  simp only [Act.put, List.setIfInBounds_toArray, List.set_cons_zero, List.set_cons_succ]
  refine take_at (i := 8) (d := 129) (v := .pointer (some ⟨w.heap.size + 1, 5, none⟩)) rfl rfl (by kernel_rfl) (by kernel_rfl) (by kernel_rfl) (fun _ _ _ h => h) (.inl ⟨by kernel_rfl, fun U hU => by obtain ⟨wn1, ⟨hq1, hh1⟩, hm1⟩ := hU; have z0 : _ = some (Value.int .i64 base) := hq1.cell 0; have z1 : _ = some (Value.int .i64 cap) := hq1.cell 1; obtain ⟨z2, z3, z4, z5, z6, z7, z8⟩ := hh1.c7; go_simp⟩) hS0 ?_
  simp only [Act.put, List.setIfInBounds_toArray, List.set_cons_zero, List.set_cons_succ]
  have A1 := Lib.hid A0
  clear A0
  have zq0 : _ = some (Value.int .i64 base) := A1.out.s.q.cell 0
  have zq1 : _ = some (Value.int .i64 cap) := A1.out.s.q.cell 1
  obtain ⟨zh0, zh1, zh2, zh3, zh4, zh5, zh6⟩ := A1.out.s.h.c7
  have zlq := A1.out.s.q.lt
  have zlh := A1.out.s.h.lt
  have f5 := A1.out.s.h.frozen 5
  have AV := A1.out.setW hgA true
  have hm2 := (AV.o.at_ (j := base) (by omega)).1
  rw [hy] at hm2
  have hS2 : SPop w.heap.size base cap gA 2 5 v t b 0 y _ := ⟨_, AV.s, hm2⟩
  have hS2 := Lib.hid hS2
  have AV := Lib.hid AV
  clear hm2
  refine wpAnyH_all (rs := [9]) (by kernel_rfl) (by simp) ?_
  intro i hi
  simp only [List.mem_cons, List.not_mem_nil, or_false] at hi
  subst hi
  unfold wpOp
  go_simp
  left
  refine ⟨by kernel_rfl, ?_⟩
  obtain ⟨V, hV⟩ : ∃ V, U1.setCell ⟨w.heap.size + 1, 5, none⟩ (.bool true) = V := ⟨_, rfl⟩
  rw [hV] at AV ⊢
  clear hV hS2 hS0 hm0 f5 A1 zq0 zq1 zh0 zh1 zh2 zh3 zh4 zh5 zh6 zlq zlh
  have zq0 : _ = some (Value.int .i64 base) := AV.out.s.q.cell 0
  have zq1 : _ = some (Value.int .i64 cap) := AV.out.s.q.cell 1
  obtain ⟨zh0, zh1, zh2, zh3, zh4, zh5, zh6⟩ := AV.out.s.h.c7
  have zlq := AV.out.s.q.lt
  have zlh := AV.out.s.h.lt
  go_wp2_with fail
  refine (with_at _ _ _ ms _ AV.out.o.ints base _ rfl (by omega) (t + 1) ft1).mono ?_
  rintro e U2 ⟨A2, c2, rfl, o2, b2⟩
  obtain ⟨g1, rfl, hg1, -, -, -⟩ := o2.form (by rw [List.length_set]; omega)
  have hgn : g1 ≠ w.heap.size + 1 + 1 := (by have := AV.out.r.r.lt; omega)
  have hO2 := o2.base (show B ≤ V.heap.size by have := AV.out.r.r.lt; omega)
  have A2 := Lib.hid (AV.out.below b2)
  have HO2 := Lib.hid hO2
  clear b2 o2 hO2 AV zq0 zq1 zh0 zh1 zh2 zh3 zh4 zh5 zh6 zlq zlh
  have zq0 : _ = some (Value.int .i64 base) := A2.out.s.q.cell 0
  have zq1 : _ = some (Value.int .i64 cap) := A2.out.s.q.cell 1
  obtain ⟨zh0, zh1, zh2, zh3, zh4, zh5, zh6⟩ := A2.out.s.h.c7
  have zlq := A2.out.s.q.lt
  have zlh := A2.out.s.h.lt
  go_wp2_with fail
  refine (at7 2 5 v t b true 0 6 _).mono ?_
  rintro e U9 ⟨rfl, b9⟩
  clear zq0 zq1 zh0 zh1 zh2 zh3 zh4 zh5 zh6 zlq zlh
  have A9 := A2.out.below b9
  have O9 := HO2.out.below b9
  clear b9
  obtain ⟨q0, q1, q2, q3, q4, q5, q6⟩ := A9.r.r.c7
  obtain ⟨f0, f1, f2, f3, f4, f5, f6⟩ := A9.r.r.f7
  have lr := A9.r.r.lt
  have B2 := Lib.hid (below_set7 A9.bl (by omega : w.heap.size ≤ w.heap.size + 1 + 1) (.int .i64 2) (.int .i64 6) (.int .i64 v) (.int .i64 t) (.int .i64 b) (.bool true) (.int .i64 0))
  have K2 := Lib.hid (bk_set7 A9.r.r (.int .i64 2) (.int .i64 6) (.int .i64 v) (.int .i64 t) (.int .i64 b) (.bool true) (.int .i64 0))
  have O2 := Lib.hid (own_far7 O9 hgn (.int .i64 2) (.int .i64 6) (.int .i64 v) (.int .i64 t) (.int .i64 b) (.bool true) (.int .i64 0))
  clear A9 O9
  go_wp2
  obtain ⟨r0, r1, r2, r3, r4, r5, r6⟩ := K2.out.c7
  unfold set7 at r0 r1 r2 r3 r4 r5 r6
  exact bodyPost_ret (v := .tuple #[.slice (some ⟨g1, 0, none⟩) (ms.set base (t + 1)).length c2, .agg #[.int .i64 2, .int .i64 6, .int .i64 v, .int .i64 t, .int .i64 b, .bool true, .int .i64 0], .bool true]) (by simp [results, Try.results24, go_sem, r0, r1, r2, r3, r4, r5, r6]) rfl ⟨_, _, rfl, O2.out, B2.out⟩

set_option maxRecDepth 100000 in
set_option maxHeartbeats 2000000 in
theorem rpop5l (c base cap gA B : Nat) (ms : List Int) (v t b : Int) (wn : Bool) (y : Int) (w : World) (hBw : B ≤ w.heap.size) (hx : OwnI 2 w B (some ⟨gA, 0, none⟩) c ms) (hgA : gA < w.heap.size) (hlen : base + 2 + cap ≤ ms.length) (hbig : ms.length ≤ 65536) (hc1 : 1 ≤ cap) (hc2 : cap ≤ 1024) (hy : nth ms base = y) (hyt : (y == t) = false) (ht0 : 0 ≤ t) (ht1 : t ≤ 1099511627776) :
    Calls Try.prog 24 #[.slice (some ⟨gA, 0, none⟩) ms.length c, .agg #[.int .i64 base, .int .i64 cap], .agg #[.int .i64 2, .int .i64 5, .int .i64 v, .int .i64 t, .int .i64 b, .bool wn, .int .i64 0]] w (RetMO B ms ⟨2, 6, v, t, b, false, 0⟩ true w) := by
  have := hBw
  clear this
  have := hbig
  clear this
  have := hlen
  clear this
  have := hc1
  clear this
  have := hc2
  clear this
  have := hgA
  clear this
  have := hy
  clear this
  have := hyt
  clear this
  have := ht0
  clear this
  have := ht1
  clear this
  have hwB : IntKind.i64.wrap ((base : Int) + 1) = (base : Int) + 1 := by rw [IntKind.wrap_i64]; omega
  have HX0 := Lib.hid hx
  have hi0 : base < ms.length := by omega
  have hi1 : base + 1 < ms.length := by omega
  obtain ⟨hS, hR, hB⟩ := three_is w base cap 2 5 v t b wn 0
  have HX := Lib.hid (hx.below hB)
  have a0 : _ = some (Value.int .i64 base) := hS.q.cell 0
  have a1 : _ = some (Value.int .i64 cap) := hS.q.cell 1
  obtain ⟨ah0, ah1, ah2, ah3, ah4, ah5, ah6⟩ := hS.h.c7
  have am0 := (HX.out.at_ (j := base) (by omega)).1; rw [hy] at am0
  unfold three at am0 a0 a1 ah0 ah1 ah2 ah3 ah4 ah5 ah6
  clear hS hR hB HX
  clear hx
  go_enter Try.func24, Try.ntmps24
  have A0 := AllB.start (base := base) (cap := cap) (B := B) (gA := gA) (c := c) (ms := ms) (w := w) 2 5 v t b wn 0 HX0.out
  go_wp2_with fail
  clear am0 a0 a1 ah0 ah1 ah2 ah3 ah4 ah5 ah6
  have A0 := A0.drew
  refine wp_region_held (S := SPop w.heap.size base cap gA 2 5 v t b 0 y) (by kernel_rfl) ?_
  change wpAnyH _ _ _ _ _ _ _ _ (World.drew (three w base cap 2 5 v t b wn 0))
  generalize (three w base cap 2 5 v t b wn 0).drew = U1 at A0 ⊢
  have hm0 := (A0.o.at_ (j := base) (by omega)).1
  rw [hy] at hm0
  have hS0 : SPop w.heap.size base cap gA 2 5 v t b 0 y U1 := ⟨_, A0.s, hm0⟩
  refine take_at (i := 0) (d := 121) (v := .slice (some ⟨gA, 0, none⟩) ms.length c) rfl rfl (by kernel_rfl) (by kernel_rfl) (by kernel_rfl) (fun _ _ _ h => h) (.inl ⟨by kernel_rfl, fun U hU => by obtain ⟨wn1, ⟨hq1, hh1⟩, hm1⟩ := hU; have z0 : _ = some (Value.int .i64 base) := hq1.cell 0; have z1 : _ = some (Value.int .i64 cap) := hq1.cell 1; obtain ⟨z2, z3, z4, z5, z6, z7, z8⟩ := hh1.c7; go_simp⟩) hS0 ?_
  simp only [Act.put, List.setIfInBounds_toArray, List.set_cons_zero, List.set_cons_succ]
  refine take_at (i := 1) (d := 122) (v := .pointer (some ⟨w.heap.size, 0, none⟩)) rfl rfl (by kernel_rfl) (by kernel_rfl) (by kernel_rfl) (fun _ _ _ h => h) (.inl ⟨by kernel_rfl, fun U hU => by obtain ⟨wn1, ⟨hq1, hh1⟩, hm1⟩ := hU; have z0 : _ = some (Value.int .i64 base) := hq1.cell 0; have z1 : _ = some (Value.int .i64 cap) := hq1.cell 1; obtain ⟨z2, z3, z4, z5, z6, z7, z8⟩ := hh1.c7; go_simp⟩) hS0 ?_
  simp only [Act.put, List.setIfInBounds_toArray, List.set_cons_zero, List.set_cons_succ]
  refine take_at (i := 2) (d := 123) (v := .int .i64 base) rfl rfl (by kernel_rfl) (by kernel_rfl) (by kernel_rfl) (fun _ _ _ h => h) (.inl ⟨by kernel_rfl, fun U hU => by obtain ⟨wn1, ⟨hq1, hh1⟩, hm1⟩ := hU; have z0 : _ = some (Value.int .i64 base) := hq1.cell 0; have z1 : _ = some (Value.int .i64 cap) := hq1.cell 1; obtain ⟨z2, z3, z4, z5, z6, z7, z8⟩ := hh1.c7; go_simp⟩) hS0 ?_
  simp only [Act.put, List.setIfInBounds_toArray, List.set_cons_zero, List.set_cons_succ]
  refine take_at (i := 3) (d := 124) (v := .pointer (some ⟨gA, base, none⟩)) rfl rfl (by kernel_rfl) (by kernel_rfl) (by kernel_rfl) (fun _ _ _ h => h) (.inl ⟨by kernel_rfl, fun U hU => by obtain ⟨wn1, ⟨hq1, hh1⟩, hm1⟩ := hU; have z0 : _ = some (Value.int .i64 base) := hq1.cell 0; have z1 : _ = some (Value.int .i64 cap) := hq1.cell 1; obtain ⟨z2, z3, z4, z5, z6, z7, z8⟩ := hh1.c7; go_simp⟩) hS0 ?_
  simp only [Act.put, List.setIfInBounds_toArray, List.set_cons_zero, List.set_cons_succ]
  refine take_at (i := 4) (d := 125) (v := .int .i64 y) rfl rfl (by kernel_rfl) (by kernel_rfl) (by kernel_rfl) (fun _ _ _ h => h) (.inl ⟨by kernel_rfl, fun U hU => by obtain ⟨wn1, ⟨hq1, hh1⟩, hm1⟩ := hU; have z0 : _ = some (Value.int .i64 base) := hq1.cell 0; have z1 : _ = some (Value.int .i64 cap) := hq1.cell 1; obtain ⟨z2, z3, z4, z5, z6, z7, z8⟩ := hh1.c7; go_simp⟩) hS0 ?_
  simp only [Act.put, List.setIfInBounds_toArray, List.set_cons_zero, List.set_cons_succ]
  refine take_at (i := 5) (d := 126) (v := .pointer (some ⟨w.heap.size + 1, 3, none⟩)) rfl rfl (by kernel_rfl) (by kernel_rfl) (by kernel_rfl) (fun _ _ _ h => h) (.inl ⟨by kernel_rfl, fun U hU => by obtain ⟨wn1, ⟨hq1, hh1⟩, hm1⟩ := hU; have z0 : _ = some (Value.int .i64 base) := hq1.cell 0; have z1 : _ = some (Value.int .i64 cap) := hq1.cell 1; obtain ⟨z2, z3, z4, z5, z6, z7, z8⟩ := hh1.c7; go_simp⟩) hS0 ?_
  simp only [Act.put, List.setIfInBounds_toArray, List.set_cons_zero, List.set_cons_succ]
  refine take_at (i := 6) (d := 127) (v := .int .i64 t) rfl rfl (by kernel_rfl) (by kernel_rfl) (by kernel_rfl) (fun _ _ _ h => h) (.inl ⟨by kernel_rfl, fun U hU => by obtain ⟨wn1, ⟨hq1, hh1⟩, hm1⟩ := hU; have z0 : _ = some (Value.int .i64 base) := hq1.cell 0; have z1 : _ = some (Value.int .i64 cap) := hq1.cell 1; obtain ⟨z2, z3, z4, z5, z6, z7, z8⟩ := hh1.c7; go_simp⟩) hS0 ?_
  simp only [Act.put, List.setIfInBounds_toArray, List.set_cons_zero, List.set_cons_succ]
  refine take_at (i := 7) (d := 128) (v := .bool false) rfl rfl (by kernel_rfl) (by kernel_rfl) (by kernel_rfl) (fun _ _ _ h => h) (.inl ⟨by kernel_rfl, fun U hU => by obtain ⟨wn1, ⟨hq1, hh1⟩, hm1⟩ := hU; have z0 : _ = some (Value.int .i64 base) := hq1.cell 0; have z1 : _ = some (Value.int .i64 cap) := hq1.cell 1; obtain ⟨z2, z3, z4, z5, z6, z7, z8⟩ := hh1.c7; go_simp⟩) hS0 ?_
  simp only [Act.put, List.setIfInBounds_toArray, List.set_cons_zero, List.set_cons_succ]
  refine take_at (i := 8) (d := 129) (v := .pointer (some ⟨w.heap.size + 1, 5, none⟩)) rfl rfl (by kernel_rfl) (by kernel_rfl) (by kernel_rfl) (fun _ _ _ h => h) (.inl ⟨by kernel_rfl, fun U hU => by obtain ⟨wn1, ⟨hq1, hh1⟩, hm1⟩ := hU; have z0 : _ = some (Value.int .i64 base) := hq1.cell 0; have z1 : _ = some (Value.int .i64 cap) := hq1.cell 1; obtain ⟨z2, z3, z4, z5, z6, z7, z8⟩ := hh1.c7; go_simp⟩) hS0 ?_
  simp only [Act.put, List.setIfInBounds_toArray, List.set_cons_zero, List.set_cons_succ]
  have A1 := Lib.hid A0
  clear A0
  have zq0 : _ = some (Value.int .i64 base) := A1.out.s.q.cell 0
  have zq1 : _ = some (Value.int .i64 cap) := A1.out.s.q.cell 1
  obtain ⟨zh0, zh1, zh2, zh3, zh4, zh5, zh6⟩ := A1.out.s.h.c7
  have zlq := A1.out.s.q.lt
  have zlh := A1.out.s.h.lt
  have f5 := A1.out.s.h.frozen 5
  have AV := A1.out.setW hgA false
  have hm2 := (AV.o.at_ (j := base) (by omega)).1
  rw [hy] at hm2
  have hS2 : SPop w.heap.size base cap gA 2 5 v t b 0 y _ := ⟨_, AV.s, hm2⟩
  have hS2 := Lib.hid hS2
  have AV := Lib.hid AV
  clear hm2
  refine wpAnyH_all (rs := [9]) (by kernel_rfl) (by simp) ?_
  intro i hi
  simp only [List.mem_cons, List.not_mem_nil, or_false] at hi
  subst hi
  unfold wpOp
  go_simp
  left
  refine ⟨by kernel_rfl, ?_⟩
  obtain ⟨V, hV⟩ : ∃ V, U1.setCell ⟨w.heap.size + 1, 5, none⟩ (.bool false) = V := ⟨_, rfl⟩
  rw [hV] at AV ⊢
  clear hV hS2 hS0 hm0 f5 A1 zq0 zq1 zh0 zh1 zh2 zh3 zh4 zh5 zh6 zlq zlh
  have zq0 : _ = some (Value.int .i64 base) := AV.out.s.q.cell 0
  have zq1 : _ = some (Value.int .i64 cap) := AV.out.s.q.cell 1
  obtain ⟨zh0, zh1, zh2, zh3, zh4, zh5, zh6⟩ := AV.out.s.h.c7
  have zlq := AV.out.s.q.lt
  have zlh := AV.out.s.h.lt
  go_wp2_with fail
  refine (at7 2 5 v t b false 0 6 _).mono ?_
  rintro e U9 ⟨rfl, b9⟩
  clear zq0 zq1 zh0 zh1 zh2 zh3 zh4 zh5 zh6 zlq zlh
  have A9 := AV.out.below b9
  have O9 := A9.o
  clear b9
  obtain ⟨q0, q1, q2, q3, q4, q5, q6⟩ := A9.r.r.c7
  obtain ⟨f0, f1, f2, f3, f4, f5, f6⟩ := A9.r.r.f7
  have lr := A9.r.r.lt
  have B2 := Lib.hid (below_set7 A9.bl (by omega : w.heap.size ≤ w.heap.size + 1 + 1) (.int .i64 2) (.int .i64 6) (.int .i64 v) (.int .i64 t) (.int .i64 b) (.bool false) (.int .i64 0))
  have K2 := Lib.hid (bk_set7 A9.r.r (.int .i64 2) (.int .i64 6) (.int .i64 v) (.int .i64 t) (.int .i64 b) (.bool false) (.int .i64 0))
  have O2 := Lib.hid (own_far7 O9 (by omega : gA ≠ w.heap.size + 1 + 1) (.int .i64 2) (.int .i64 6) (.int .i64 v) (.int .i64 t) (.int .i64 b) (.bool false) (.int .i64 0))
  clear A9 O9
  go_wp2
  obtain ⟨r0, r1, r2, r3, r4, r5, r6⟩ := K2.out.c7
  unfold set7 at r0 r1 r2 r3 r4 r5 r6
  exact bodyPost_ret (v := .tuple #[.slice (some ⟨gA, 0, none⟩) ms.length c, .agg #[.int .i64 2, .int .i64 6, .int .i64 v, .int .i64 t, .int .i64 b, .bool false, .int .i64 0], .bool true]) (by simp [results, Try.results24, go_sem, r0, r1, r2, r3, r4, r5, r6]) rfl ⟨_, _, rfl, O2.out, B2.out⟩

end Go.Proofs.Ytfmiamjbhlglbaa

/-
  The laws' live (layer 7): the chapter's example holds.
-/
import Derived.Test.YtfmiamjbhlglbaaSd
import Derived.Deep.OwnRows
namespace Go.Proofs.Ytfmiamjbhlglbaa
open Go.RowKit

theorem live_1 : soloF 0 4 8 [0, 0, 0, 0, 0, 0] (newH 1 5) = some ([0, 1, 5, 0, 0, 0], ⟨1, 3, 5, 0, 0, false, 1⟩) := by rfl
theorem live_2 : soloF 0 4 8 [0, 1, 5, 0, 0, 0] (newH 1 6) = some ([0, 2, 5, 6, 0, 0], ⟨1, 3, 6, 0, 1, false, 1⟩) := by rfl
theorem live_3 : soloF 0 4 8 [0, 2, 5, 6, 0, 0] (newH 2 0) = some ([0, 1, 5, 6, 0, 0], ⟨2, 4, 6, 0, 1, false, 1⟩) := by rfl
theorem live_4 : soloF 0 4 8 [0, 1, 5, 6, 0, 0] (newH 3 0) = some ([1, 1, 5, 6, 0, 0], ⟨3, 3, 5, 0, 1, false, 1⟩) := by rfl
theorem lies_zeros (w : World) (base n : Nat) (hb : base ≤ w.heap.size) (hn : n ≤ 2000) (z : Array Value) (hz : madeCells #[Value.int .i64 0] n = z) : OwnI 2 (w.alloc (.cells z 2)) base (some ⟨w.heap.size, 0, none⟩) n (List.replicate n 0) := by
  subst hz
  refine OwnI.zeros (by omega) ?_
  have hs : (madeCells #[Value.int .i64 0] n).size = n * 1 := by
    rw [← Array.length_toList, toList_madeCells_one]; simp
  have := World.ownsRow_lit (base := base) (e := 2) (size := 1) w (madeCells #[Value.int .i64 0] n) n hb (by unfold maxLen; omega) hs
  simpa [Value.cells] using this
theorem mkM (n : Nat) (h : n ≤ 2000) (W : World) : (Instr.makeSlice 23 (.int .i64 (n : Int)) (.int .i64 (n : Int))).run Try.prog W = .ok (.slice (some ⟨W.heap.size, 0, none⟩) n n) (W.alloc (.cells (madeCells #[.int .i64 0] n) 2)) :=
  run_make_row' (P := Try.prog) 23 2 (.int .i64 0) 8 Try.underlying23 infoI rfl .i64 .i64 n (by omega) (by omega) W

/-- .. a call at once of the example. -/
theorem live_done (A : Option Addr) (c : Nat) (ms : List Int) (k v : Int) (w : World) (hx : Ints w A 6 ms) (hk : 0 < pcsF k) (fv : Fit v) (ms2 : List Int) (h2 : Hd) (ho : soloF 0 4 8 ms (newH k v) = some (ms2, h2)) (hs : h2.state ≠ 0) :
    Calls Try.prog 19 #[.slice A 6 c, .agg #[.int .i64 0, .int .i64 4], .int .i64 k, .int .i64 v] w (DoneOf ms2 h2 w) := by
  have hl := hx.1
  rw [← hl] at hx ⊢
  exact done_any A c 0 4 ms k v w hx (by rw [hl]; unfold MayQ; decide) hk fv ms2 h2 ho hs

theorem own_aside7 {E : TypeId} {W : World} {B : Nat} {A : Option Addr} {c : Nat} {zs : List Int} (h : OwnI E W B A c zs) {g : Nat} (hne : ∀ a, A = some a → a.block ≠ g) (v0 v1 v2 v3 v4 v5 v6 : Value) : OwnI E (set7 W g v0 v1 v2 v3 v4 v5 v6) B A c zs :=
  ((((((h.aside hne 0 v0).aside hne 1 v1).aside hne 2 v2).aside hne 3 v3).aside hne 4 v4).aside hne 5 v5).aside hne 6 v6

set_option maxHeartbeats 4000000 in
theorem live_any (w : World) : Calls Try.prog 7 #[] w (TrueAns w) := by
  have mk6 := mkM 6 (by omega)
  simp only [show ((6 : Nat) : Int) = 6 from rfl] at mk6
  obtain ⟨z6, hz6⟩ : ∃ z, madeCells #[Value.int .i64 0] 6 = z := ⟨_, rfl⟩
  rw [hz6] at mk6
  have HZ := Lib.hid hz6
  have k0 := Bk.new w 25 #[.int .i64 0, .int .i64 4]
  have b0 := (Below.refl w.heap.size w).alloc (Nat.le_refl _) (.cells #[.int .i64 0, .int .i64 4] 25)
  obtain ⟨W, hW⟩ : ∃ W, w.alloc (.cells #[.int .i64 0, .int .i64 4] 25) = W := ⟨_, rfl⟩
  rw [hW] at k0 b0
  have HW := Lib.hid hW
  have K0 := Lib.hid k0
  have B0 := Lib.hid b0
  clear hz6 hW k0 b0
  go_enter Try.func7, Try.ntmps7
  go_wp2
  rw [HW.out]
  clear HW
  refine wp_region_held (S := fun U => Bk U w.heap.size 25 #[.int .i64 0, .int .i64 4]) (by kernel_rfl) ?_
  change wpAnyH _ _ _ _ _ _ _ _ (World.drew _)
  have hS0 := K0.out.drew
  have hb0 := B0.out.drew
  generalize W.drew = U0 at hS0 hb0 ⊢
  have hl0 : w.heap.size ≤ U0.heap.size := hb0.size
  clear K0 B0
  refine take_at (i := 1) (d := 15) (v := .agg #[.int .i64 0, .int .i64 4]) rfl rfl (by kernel_rfl) (by kernel_rfl) (by kernel_rfl) (fun _ _ _ h => h) (.inl ⟨by kernel_rfl, fun U hU => by have q0 : _ = some (Value.int .i64 0) := hU.cell 0; have q1 : _ = some (Value.int .i64 4) := hU.cell 1; go_simp⟩) hS0 ?_
  simp only [Act.put, List.setIfInBounds_toArray, List.set_cons_zero, List.set_cons_succ]
  refine wpAnyH_all (rs := [0, 7]) (by kernel_rfl) (by simp) ?_
  intro i hi
  simp only [List.mem_cons, List.not_mem_nil, or_false] at hi
  rcases hi with rfl | rfl
  · unfold wpOp
    go_simp
    left
    have hS1 := hS0.alloc (.cells z6 2)
    have ox := lies_zeros U0 U0.heap.size 6 (Nat.le_refl _) (by omega) z6 HZ.out
    have hb1 := hb0.alloc hl0 (.cells z6 2)
    have hl1 : w.heap.size ≤ (U0.alloc (.cells z6 2)).heap.size := hb1.size
    obtain ⟨U1, hU1⟩ : ∃ U, U0.alloc (.cells z6 2) = U := ⟨_, rfl⟩
    rw [hU1] at hS1 ox hb1 hl1  ⊢
    obtain ⟨a1, ha1⟩ : ∃ a, U0.heap.size = a := ⟨_, rfl⟩
    rw [ha1] at ox ⊢
    have ix : Ints U1 (some ⟨a1, 0, none⟩) 6 [0, 0, 0, 0, 0, 0] := ox.ints
    refine ⟨hS1, ?_⟩
    clear ox hU1
    refine wpAnyH_all (rs := [2, 7]) (by kernel_rfl) (by simp) ?_
    intro i hi
    simp only [List.mem_cons, List.not_mem_nil, or_false] at hi
    rcases hi with rfl | rfl
    · unfold wpOp
      go_simp
      left
      refine (live_done (some ⟨a1, 0, none⟩) 6 [0, 0, 0, 0, 0, 0] 1 5 _ ix (by decide) ⟨by omega, by omega⟩ _ _ live_1 (by decide)).mono ?_
      rintro e U2 ⟨A1, c1, rfl, o1, b1⟩
      have hS2 := hS1.below b1 hS1.lt
      have hb2 := below3 hb1 b1
      have hl2 : w.heap.size ≤ U2.heap.size := hb2.size
      refine ⟨hS2, ?_⟩
      clear b1 ix
      unfold hv
      simp only [List.length_cons, List.length_nil, Nat.zero_add, Nat.reduceAdd]
      refine take_at (i := 3) (d := 13) (v := .tuple #[.slice A1 6 c1, .agg #[.int .i64 1, .int .i64 3, .int .i64 5, .int .i64 0, .int .i64 0, .bool false, .int .i64 1], .bool true]) rfl rfl (by kernel_rfl) (by kernel_rfl) (by kernel_rfl) (fun _ _ _ h => h) (.inl ⟨by kernel_rfl, fun U hU => by go_simp⟩) hS2 ?_
      simp only [Act.put, List.setIfInBounds_toArray, List.set_cons_zero, List.set_cons_succ]
      refine take_at (i := 4) (d := 17) (v := .slice A1 6 c1) rfl rfl (by kernel_rfl) (by kernel_rfl) (by kernel_rfl) (fun _ _ _ h => h) (.inl ⟨by kernel_rfl, fun U hU => by go_simp⟩) hS2 ?_
      simp only [Act.put, List.setIfInBounds_toArray, List.set_cons_zero, List.set_cons_succ]
      refine take_at (i := 5) (d := 18) (v := .agg #[.int .i64 1, .int .i64 3, .int .i64 5, .int .i64 0, .int .i64 0, .bool false, .int .i64 1]) rfl rfl (by kernel_rfl) (by kernel_rfl) (by kernel_rfl) (fun _ _ _ h => h) (.inl ⟨by kernel_rfl, fun U hU => by go_simp⟩) hS2 ?_
      simp only [Act.put, List.setIfInBounds_toArray, List.set_cons_zero, List.set_cons_succ]
      refine take_at (i := 6) (d := 19) (v := .bool true) rfl rfl (by kernel_rfl) (by kernel_rfl) (by kernel_rfl) (fun _ _ _ h => h) (.inl ⟨by kernel_rfl, fun U hU => by go_simp⟩) hS2 ?_
      simp only [Act.put, List.setIfInBounds_toArray, List.set_cons_zero, List.set_cons_succ]
      refine wpAnyH_all (rs := [7]) (by kernel_rfl) (by simp) ?_
      intro i hi
      simp only [List.mem_cons, List.not_mem_nil, or_false] at hi
      subst hi
      unfold wpOp
      go_simp
      left
      have hS3 := hS2.alloc (.cells #[.int .i64 0, .int .i64 0, .int .i64 0, .int .i64 0, .int .i64 0, .bool false, .int .i64 0] 27)
      have kh := Bk.new U2 27 #[.int .i64 0, .int .i64 0, .int .i64 0, .int .i64 0, .int .i64 0, .bool false, .int .i64 0]
      have hb3 := hb2.alloc hl2 (.cells #[.int .i64 0, .int .i64 0, .int .i64 0, .int .i64 0, .int .i64 0, .bool false, .int .i64 0] 27)
      have hl3 : w.heap.size ≤ (U2.alloc (.cells #[.int .i64 0, .int .i64 0, .int .i64 0, .int .i64 0, .int .i64 0, .bool false, .int .i64 0] 27)).heap.size := hb3.size
      obtain ⟨x1, ex1, -, hx1, -, -⟩ := o1.form (by decide)
      have o1 := o1.below ((Below.refl _ _).alloc (Nat.le_refl _) (.cells #[.int .i64 0, .int .i64 0, .int .i64 0, .int .i64 0, .int .i64 0, .bool false, .int .i64 0] 27))
      obtain ⟨U3, hU3⟩ : ∃ U, U2.alloc (.cells #[.int .i64 0, .int .i64 0, .int .i64 0, .int .i64 0, .int .i64 0, .bool false, .int .i64 0] 27) = U := ⟨_, rfl⟩
      rw [hU3] at hS3 kh hb3 hl3 o1 ⊢
      obtain ⟨g, hg⟩ : ∃ a, U2.heap.size = a := ⟨_, rfl⟩
      have hgw : w.heap.size < g := by rw [← hg]; exact hS2.lt
      have hne : ∀ a, A1 = some a → a.block ≠ g := fun a ha => by rw [ex1] at ha; injection ha with ha; subst ha; show x1 ≠ g; omega
      clear ex1 hx1
      rw [hg] at kh ⊢
      refine ⟨hS3, ?_⟩
      clear hU3
      refine take_at (i := 8) (d := 2) (v := .slice A1 6 c1) rfl rfl (by kernel_rfl) (by kernel_rfl) (by kernel_rfl) (fun _ _ _ h => h) (.inl ⟨by kernel_rfl, fun U hU => by go_simp⟩) hS3 ?_
      simp only [Act.put, List.setIfInBounds_toArray, List.set_cons_zero, List.set_cons_succ]
      obtain ⟨q0, q1, q2, q3, q4, q5, q6⟩ := kh.c7
      obtain ⟨f0, f1, f2, f3, f4, f5, f6⟩ := kh.f7
      have lh := kh.lt
      have LV := Lib.hid (below_set7 hb3 (by omega : w.heap.size ≤ g) (.int .i64 1) (.int .i64 3) (.int .i64 5) (.int .i64 0) (.int .i64 0) (.bool false) (.int .i64 1))
      have KQ := Bk.far7 hS3 (by omega : w.heap.size ≠ g) (.int .i64 1) (.int .i64 3) (.int .i64 5) (.int .i64 0) (.int .i64 0) (.bool false) (.int .i64 1)
      have OV := Lib.hid (own_aside7 o1 hne (.int .i64 1) (.int .i64 3) (.int .i64 5) (.int .i64 0) (.int .i64 0) (.bool false) (.int .i64 1))
      obtain ⟨V, hV⟩ : ∃ V, set7 U3 g (.int .i64 1) (.int .i64 3) (.int .i64 5) (.int .i64 0) (.int .i64 0) (.bool false) (.int .i64 1) = V := ⟨_, rfl⟩
      rw [hV] at LV KQ OV
      unfold set7 at hV
      refine wpAnyH_all (rs := [9]) (by kernel_rfl) (by simp) ?_
      intro i hi
      simp only [List.mem_cons, List.not_mem_nil, or_false] at hi
      subst hi
      unfold wpOp
      go_simp
      left
      clear hV q0 q1 q2 q3 q4 q5 q6 f0 f1 f2 f3 f4 f5 f6 lh kh o1 hne
      refine take_at (i := 10) (d := 4) (v := .bool true) rfl rfl (by kernel_rfl) (by kernel_rfl) (by kernel_rfl) (fun _ _ _ h => h) (.inl ⟨by kernel_rfl, fun U hU => by go_simp⟩) KQ ?_
      simp only [Act.put, List.setIfInBounds_toArray, List.set_cons_zero, List.set_cons_succ]
      refine wpAnyH_done (by kernel_rfl) ?_ _
      clear hS0 hb0 hl0 hS1 hb1 hl1 hS2 hb2 hl2 hS3 hb3 hl3
      have c0 : _ = some (Value.int .i64 0) := KQ.cell 0
      have c1' : _ = some (Value.int .i64 4) := KQ.cell 1
      have lq := KQ.lt
      have KQ := Lib.hid KQ
      clear hgw
      go_wp2_with fail
      refine (live_done A1 c1 _ 1 6 _ OV.out.ints (by decide) ⟨by omega, by omega⟩ _ _ live_2 (by decide)).mono ?_
      rintro e w3 ⟨A2, c2, rfl, o2, b2⟩
      have L3 := below3 LV.out b2
      have k3 := KQ.out.below b2 KQ.out.lt
      clear c0 c1' lq KQ LV OV
      have e0 : _ = some (Value.int .i64 0) := k3.cell 0
      have e1 : _ = some (Value.int .i64 4) := k3.cell 1
      have el := k3.lt
      have ba := (Below.refl w3.heap.size w3).alloc (Nat.le_refl _) (.cells #[.int .i64 1, .int .i64 3, .int .i64 6, .int .i64 0, .int .i64 1, .bool false, .int .i64 1] 27)
      have kn := Bk.new w3 27 #[.int .i64 1, .int .i64 3, .int .i64 6, .int .i64 0, .int .i64 1, .bool false, .int .i64 1]
      have k4 := k3.below ba k3.lt
      have L4 := Lib.hid (below3 L3 ba)
      have OX := Lib.hid (o2.below ba).ints
      have c0 : _ = some (Value.int .i64 0) := k4.cell 0
      have c1' : _ = some (Value.int .i64 4) := k4.cell 1
      have lq := k4.lt
      have K4 := Lib.hid k4
      have KN := Lib.hid kn
      clear ba k3 L3 o2 b2 k4 kn
      unfold hv
      simp only [List.length_cons, List.length_nil, Nat.zero_add, Nat.reduceAdd]
      go_wp2_with fail
      refine (live_done A2 c2 _ 2 0 _ OX.out (by decide) ⟨by omega, by omega⟩ _ _ live_3 (by decide)).mono ?_
      rintro e w4 ⟨A3, c3, rfl, o2, b2⟩
      have L3 := below3 L4.out b2
      have k3 := K4.out.below b2 K4.out.lt
      clear c0 c1' lq K4 L4 OX KN e0 e1 el
      have e0 : _ = some (Value.int .i64 0) := k3.cell 0
      have e1 : _ = some (Value.int .i64 4) := k3.cell 1
      have el := k3.lt
      have ba := (Below.refl w4.heap.size w4).alloc (Nat.le_refl _) (.cells #[.int .i64 2, .int .i64 4, .int .i64 6, .int .i64 0, .int .i64 1, .bool false, .int .i64 1] 27)
      have kn := Bk.new w4 27 #[.int .i64 2, .int .i64 4, .int .i64 6, .int .i64 0, .int .i64 1, .bool false, .int .i64 1]
      have k4 := k3.below ba k3.lt
      have L4 := Lib.hid (below3 L3 ba)
      have OX := Lib.hid (o2.below ba).ints
      have c0 : _ = some (Value.int .i64 0) := k4.cell 0
      have c1' : _ = some (Value.int .i64 4) := k4.cell 1
      have lq := k4.lt
      have K4 := Lib.hid k4
      have KN := Lib.hid kn
      clear ba k3 L3 o2 b2 k4 kn
      unfold hv
      simp only [List.length_cons, List.length_nil, Nat.zero_add, Nat.reduceAdd]
      go_wp2_with fail
      refine (live_done A3 c3 _ 3 0 _ OX.out (by decide) ⟨by omega, by omega⟩ _ _ live_4 (by decide)).mono ?_
      rintro e w5 ⟨A4, c4, rfl, o2, b2⟩
      have L3 := Lib.hid (below3 L4.out b2)
      have kx := KN.out.below b2 KN.out.lt
      obtain ⟨y, hy⟩ : ∃ y, w4.heap.size = y := ⟨_, rfl⟩
      rw [hy] at kx
      have x2 : _ = some (Value.int .i64 6) := kx.cell 2
      have x6 : _ = some (Value.int .i64 1) := kx.cell 6
      have lx := kx.lt
      clear c0 c1' lq K4 L4 OX KN o2 b2 kx e0 e1 el
      unfold hv
      simp only [List.length_cons, List.length_nil, Nat.zero_add, Nat.reduceAdd]
      rw [hy]
      go_wp2
      go_ret
      exact ⟨rfl, L3.out.alloc (by have := L3.out.size; omega) _⟩
    · unfold wpOp
      go_simp
      left
      have hS2 := hS1.alloc (.cells #[.int .i64 0, .int .i64 0, .int .i64 0, .int .i64 0, .int .i64 0, .bool false, .int .i64 0] 27)
      have kh := Bk.new U1 27 #[.int .i64 0, .int .i64 0, .int .i64 0, .int .i64 0, .int .i64 0, .bool false, .int .i64 0]
      have hb2 := hb1.alloc hl1 (.cells #[.int .i64 0, .int .i64 0, .int .i64 0, .int .i64 0, .int .i64 0, .bool false, .int .i64 0] 27)
      have hl2 : w.heap.size ≤ (U1.alloc (.cells #[.int .i64 0, .int .i64 0, .int .i64 0, .int .i64 0, .int .i64 0, .bool false, .int .i64 0] 27)).heap.size := hb2.size
      have ix := ix.alloc (.cells #[.int .i64 0, .int .i64 0, .int .i64 0, .int .i64 0, .int .i64 0, .bool false, .int .i64 0] 27)
      obtain ⟨U2, hU2⟩ : ∃ U, U1.alloc (.cells #[.int .i64 0, .int .i64 0, .int .i64 0, .int .i64 0, .int .i64 0, .bool false, .int .i64 0] 27) = U := ⟨_, rfl⟩
      rw [hU2] at hS2 kh hb2 hl2 ix ⊢
      obtain ⟨g, hg⟩ : ∃ a, U1.heap.size = a := ⟨_, rfl⟩
      have hgw : w.heap.size < g := by rw [← hg]; exact hS1.lt
      rw [hg] at kh ⊢
      refine ⟨hS2, ?_⟩
      clear hU2
      refine wpAnyH_all (rs := [2]) (by kernel_rfl) (by simp) ?_
      intro i hi
      simp only [List.mem_cons, List.not_mem_nil, or_false] at hi
      subst hi
      unfold wpOp
      go_simp
      left
      refine (live_done (some ⟨a1, 0, none⟩) 6 [0, 0, 0, 0, 0, 0] 1 5 _ ix (by decide) ⟨by omega, by omega⟩ _ _ live_1 (by decide)).mono ?_
      rintro e U3 ⟨A1, c1, rfl, o1, b1⟩
      have hS3 := hS2.below b1 hS2.lt
      have hb3 := below3 hb2 b1
      have hl3 : w.heap.size ≤ U3.heap.size := hb3.size
      have kh0 := kh
      have kh := kh.below b1 kh.lt
      have hne : ∀ a, A1 = some a → a.block ≠ g := fun a ha => by subst ha; have h1 := o1.block (n := 0) (d := 0) a.block rfl; have h2 := kh0.lt; omega
      refine ⟨hS3, ?_⟩
      clear b1 ix kh0
      unfold hv
      simp only [List.length_cons, List.length_nil, Nat.zero_add, Nat.reduceAdd]
      refine take_at (i := 3) (d := 13) (v := .tuple #[.slice A1 6 c1, .agg #[.int .i64 1, .int .i64 3, .int .i64 5, .int .i64 0, .int .i64 0, .bool false, .int .i64 1], .bool true]) rfl rfl (by kernel_rfl) (by kernel_rfl) (by kernel_rfl) (fun _ _ _ h => h) (.inl ⟨by kernel_rfl, fun U hU => by go_simp⟩) hS3 ?_
      simp only [Act.put, List.setIfInBounds_toArray, List.set_cons_zero, List.set_cons_succ]
      refine take_at (i := 4) (d := 17) (v := .slice A1 6 c1) rfl rfl (by kernel_rfl) (by kernel_rfl) (by kernel_rfl) (fun _ _ _ h => h) (.inl ⟨by kernel_rfl, fun U hU => by go_simp⟩) hS3 ?_
      simp only [Act.put, List.setIfInBounds_toArray, List.set_cons_zero, List.set_cons_succ]
      refine take_at (i := 5) (d := 18) (v := .agg #[.int .i64 1, .int .i64 3, .int .i64 5, .int .i64 0, .int .i64 0, .bool false, .int .i64 1]) rfl rfl (by kernel_rfl) (by kernel_rfl) (by kernel_rfl) (fun _ _ _ h => h) (.inl ⟨by kernel_rfl, fun U hU => by go_simp⟩) hS3 ?_
      simp only [Act.put, List.setIfInBounds_toArray, List.set_cons_zero, List.set_cons_succ]
      refine take_at (i := 6) (d := 19) (v := .bool true) rfl rfl (by kernel_rfl) (by kernel_rfl) (by kernel_rfl) (fun _ _ _ h => h) (.inl ⟨by kernel_rfl, fun U hU => by go_simp⟩) hS3 ?_
      simp only [Act.put, List.setIfInBounds_toArray, List.set_cons_zero, List.set_cons_succ]
      refine take_at (i := 8) (d := 2) (v := .slice A1 6 c1) rfl rfl (by kernel_rfl) (by kernel_rfl) (by kernel_rfl) (fun _ _ _ h => h) (.inl ⟨by kernel_rfl, fun U hU => by go_simp⟩) hS3 ?_
      simp only [Act.put, List.setIfInBounds_toArray, List.set_cons_zero, List.set_cons_succ]
      obtain ⟨q0, q1, q2, q3, q4, q5, q6⟩ := kh.c7
      obtain ⟨f0, f1, f2, f3, f4, f5, f6⟩ := kh.f7
      have lh := kh.lt
      have LV := Lib.hid (below_set7 hb3 (by omega : w.heap.size ≤ g) (.int .i64 1) (.int .i64 3) (.int .i64 5) (.int .i64 0) (.int .i64 0) (.bool false) (.int .i64 1))
      have KQ := Bk.far7 hS3 (by omega : w.heap.size ≠ g) (.int .i64 1) (.int .i64 3) (.int .i64 5) (.int .i64 0) (.int .i64 0) (.bool false) (.int .i64 1)
      have OV := Lib.hid (own_aside7 o1 hne (.int .i64 1) (.int .i64 3) (.int .i64 5) (.int .i64 0) (.int .i64 0) (.bool false) (.int .i64 1))
      obtain ⟨V, hV⟩ : ∃ V, set7 U3 g (.int .i64 1) (.int .i64 3) (.int .i64 5) (.int .i64 0) (.int .i64 0) (.bool false) (.int .i64 1) = V := ⟨_, rfl⟩
      rw [hV] at LV KQ OV
      unfold set7 at hV
      refine wpAnyH_all (rs := [9]) (by kernel_rfl) (by simp) ?_
      intro i hi
      simp only [List.mem_cons, List.not_mem_nil, or_false] at hi
      subst hi
      unfold wpOp
      go_simp
      left
      clear hV q0 q1 q2 q3 q4 q5 q6 f0 f1 f2 f3 f4 f5 f6 lh kh o1 hne
      refine take_at (i := 10) (d := 4) (v := .bool true) rfl rfl (by kernel_rfl) (by kernel_rfl) (by kernel_rfl) (fun _ _ _ h => h) (.inl ⟨by kernel_rfl, fun U hU => by go_simp⟩) KQ ?_
      simp only [Act.put, List.setIfInBounds_toArray, List.set_cons_zero, List.set_cons_succ]
      refine wpAnyH_done (by kernel_rfl) ?_ _
      clear hS0 hb0 hl0 hS1 hb1 hl1 hS2 hb2 hl2 hS3 hb3 hl3
      have c0 : _ = some (Value.int .i64 0) := KQ.cell 0
      have c1' : _ = some (Value.int .i64 4) := KQ.cell 1
      have lq := KQ.lt
      have KQ := Lib.hid KQ
      clear hgw
      go_wp2_with fail
      refine (live_done A1 c1 _ 1 6 _ OV.out.ints (by decide) ⟨by omega, by omega⟩ _ _ live_2 (by decide)).mono ?_
      rintro e w3 ⟨A2, c2, rfl, o2, b2⟩
      have L3 := below3 LV.out b2
      have k3 := KQ.out.below b2 KQ.out.lt
      clear c0 c1' lq KQ LV OV
      have e0 : _ = some (Value.int .i64 0) := k3.cell 0
      have e1 : _ = some (Value.int .i64 4) := k3.cell 1
      have el := k3.lt
      have ba := (Below.refl w3.heap.size w3).alloc (Nat.le_refl _) (.cells #[.int .i64 1, .int .i64 3, .int .i64 6, .int .i64 0, .int .i64 1, .bool false, .int .i64 1] 27)
      have kn := Bk.new w3 27 #[.int .i64 1, .int .i64 3, .int .i64 6, .int .i64 0, .int .i64 1, .bool false, .int .i64 1]
      have k4 := k3.below ba k3.lt
      have L4 := Lib.hid (below3 L3 ba)
      have OX := Lib.hid (o2.below ba).ints
      have c0 : _ = some (Value.int .i64 0) := k4.cell 0
      have c1' : _ = some (Value.int .i64 4) := k4.cell 1
      have lq := k4.lt
      have K4 := Lib.hid k4
      have KN := Lib.hid kn
      clear ba k3 L3 o2 b2 k4 kn
      unfold hv
      simp only [List.length_cons, List.length_nil, Nat.zero_add, Nat.reduceAdd]
      go_wp2_with fail
      refine (live_done A2 c2 _ 2 0 _ OX.out (by decide) ⟨by omega, by omega⟩ _ _ live_3 (by decide)).mono ?_
      rintro e w4 ⟨A3, c3, rfl, o2, b2⟩
      have L3 := below3 L4.out b2
      have k3 := K4.out.below b2 K4.out.lt
      clear c0 c1' lq K4 L4 OX KN e0 e1 el
      have e0 : _ = some (Value.int .i64 0) := k3.cell 0
      have e1 : _ = some (Value.int .i64 4) := k3.cell 1
      have el := k3.lt
      have ba := (Below.refl w4.heap.size w4).alloc (Nat.le_refl _) (.cells #[.int .i64 2, .int .i64 4, .int .i64 6, .int .i64 0, .int .i64 1, .bool false, .int .i64 1] 27)
      have kn := Bk.new w4 27 #[.int .i64 2, .int .i64 4, .int .i64 6, .int .i64 0, .int .i64 1, .bool false, .int .i64 1]
      have k4 := k3.below ba k3.lt
      have L4 := Lib.hid (below3 L3 ba)
      have OX := Lib.hid (o2.below ba).ints
      have c0 : _ = some (Value.int .i64 0) := k4.cell 0
      have c1' : _ = some (Value.int .i64 4) := k4.cell 1
      have lq := k4.lt
      have K4 := Lib.hid k4
      have KN := Lib.hid kn
      clear ba k3 L3 o2 b2 k4 kn
      unfold hv
      simp only [List.length_cons, List.length_nil, Nat.zero_add, Nat.reduceAdd]
      go_wp2_with fail
      refine (live_done A3 c3 _ 3 0 _ OX.out (by decide) ⟨by omega, by omega⟩ _ _ live_4 (by decide)).mono ?_
      rintro e w5 ⟨A4, c4, rfl, o2, b2⟩
      have L3 := Lib.hid (below3 L4.out b2)
      have kx := KN.out.below b2 KN.out.lt
      obtain ⟨y, hy⟩ : ∃ y, w4.heap.size = y := ⟨_, rfl⟩
      rw [hy] at kx
      have x2 : _ = some (Value.int .i64 6) := kx.cell 2
      have x6 : _ = some (Value.int .i64 1) := kx.cell 6
      have lx := kx.lt
      clear c0 c1' lq K4 L4 OX KN o2 b2 kx e0 e1 el
      unfold hv
      simp only [List.length_cons, List.length_nil, Nat.zero_add, Nat.reduceAdd]
      rw [hy]
      go_wp2
      go_ret
      exact ⟨rfl, L3.out.alloc (by have := L3.out.size; omega) _⟩
  · unfold wpOp
    go_simp
    left
    have hS1 := hS0.alloc (.cells #[.int .i64 0, .int .i64 0, .int .i64 0, .int .i64 0, .int .i64 0, .bool false, .int .i64 0] 27)
    have kh := Bk.new U0 27 #[.int .i64 0, .int .i64 0, .int .i64 0, .int .i64 0, .int .i64 0, .bool false, .int .i64 0]
    have hb1 := hb0.alloc hl0 (.cells #[.int .i64 0, .int .i64 0, .int .i64 0, .int .i64 0, .int .i64 0, .bool false, .int .i64 0] 27)
    have hl1 : w.heap.size ≤ (U0.alloc (.cells #[.int .i64 0, .int .i64 0, .int .i64 0, .int .i64 0, .int .i64 0, .bool false, .int .i64 0] 27)).heap.size := hb1.size
    obtain ⟨U1, hU1⟩ : ∃ U, U0.alloc (.cells #[.int .i64 0, .int .i64 0, .int .i64 0, .int .i64 0, .int .i64 0, .bool false, .int .i64 0] 27) = U := ⟨_, rfl⟩
    rw [hU1] at hS1 kh hb1 hl1  ⊢
    obtain ⟨g, hg⟩ : ∃ a, U0.heap.size = a := ⟨_, rfl⟩
    have hgw : w.heap.size < g := by rw [← hg]; exact hS0.lt
    rw [hg] at kh ⊢
    refine ⟨hS1, ?_⟩
    clear hU1
    refine wpAnyH_all (rs := [0]) (by kernel_rfl) (by simp) ?_
    intro i hi
    simp only [List.mem_cons, List.not_mem_nil, or_false] at hi
    subst hi
    unfold wpOp
    go_simp
    left
    have hS2 := hS1.alloc (.cells z6 2)
    have ox := lies_zeros U1 U1.heap.size 6 (Nat.le_refl _) (by omega) z6 HZ.out
    have hb2 := hb1.alloc hl1 (.cells z6 2)
    have hl2 : w.heap.size ≤ (U1.alloc (.cells z6 2)).heap.size := hb2.size
    have kh := kh.alloc (.cells z6 2)
    obtain ⟨U2, hU2⟩ : ∃ U, U1.alloc (.cells z6 2) = U := ⟨_, rfl⟩
    rw [hU2] at hS2 ox hb2 hl2 kh ⊢
    obtain ⟨a1, ha1⟩ : ∃ a, U1.heap.size = a := ⟨_, rfl⟩
    rw [ha1] at ox ⊢
    have ix : Ints U2 (some ⟨a1, 0, none⟩) 6 [0, 0, 0, 0, 0, 0] := ox.ints
    refine ⟨hS2, ?_⟩
    clear ox hU2
    refine wpAnyH_all (rs := [2]) (by kernel_rfl) (by simp) ?_
    intro i hi
    simp only [List.mem_cons, List.not_mem_nil, or_false] at hi
    subst hi
    unfold wpOp
    go_simp
    left
    refine (live_done (some ⟨a1, 0, none⟩) 6 [0, 0, 0, 0, 0, 0] 1 5 _ ix (by decide) ⟨by omega, by omega⟩ _ _ live_1 (by decide)).mono ?_
    rintro e U3 ⟨A1, c1, rfl, o1, b1⟩
    have hS3 := hS2.below b1 hS2.lt
    have hb3 := below3 hb2 b1
    have hl3 : w.heap.size ≤ U3.heap.size := hb3.size
    have kh0 := kh
    have kh := kh.below b1 kh.lt
    have hne : ∀ a, A1 = some a → a.block ≠ g := fun a ha => by subst ha; have h1 := o1.block (n := 0) (d := 0) a.block rfl; have h2 := kh0.lt; omega
    refine ⟨hS3, ?_⟩
    clear b1 ix kh0
    unfold hv
    simp only [List.length_cons, List.length_nil, Nat.zero_add, Nat.reduceAdd]
    refine take_at (i := 3) (d := 13) (v := .tuple #[.slice A1 6 c1, .agg #[.int .i64 1, .int .i64 3, .int .i64 5, .int .i64 0, .int .i64 0, .bool false, .int .i64 1], .bool true]) rfl rfl (by kernel_rfl) (by kernel_rfl) (by kernel_rfl) (fun _ _ _ h => h) (.inl ⟨by kernel_rfl, fun U hU => by go_simp⟩) hS3 ?_
    simp only [Act.put, List.setIfInBounds_toArray, List.set_cons_zero, List.set_cons_succ]
    refine take_at (i := 4) (d := 17) (v := .slice A1 6 c1) rfl rfl (by kernel_rfl) (by kernel_rfl) (by kernel_rfl) (fun _ _ _ h => h) (.inl ⟨by kernel_rfl, fun U hU => by go_simp⟩) hS3 ?_
    simp only [Act.put, List.setIfInBounds_toArray, List.set_cons_zero, List.set_cons_succ]
    refine take_at (i := 5) (d := 18) (v := .agg #[.int .i64 1, .int .i64 3, .int .i64 5, .int .i64 0, .int .i64 0, .bool false, .int .i64 1]) rfl rfl (by kernel_rfl) (by kernel_rfl) (by kernel_rfl) (fun _ _ _ h => h) (.inl ⟨by kernel_rfl, fun U hU => by go_simp⟩) hS3 ?_
    simp only [Act.put, List.setIfInBounds_toArray, List.set_cons_zero, List.set_cons_succ]
    refine take_at (i := 6) (d := 19) (v := .bool true) rfl rfl (by kernel_rfl) (by kernel_rfl) (by kernel_rfl) (fun _ _ _ h => h) (.inl ⟨by kernel_rfl, fun U hU => by go_simp⟩) hS3 ?_
    simp only [Act.put, List.setIfInBounds_toArray, List.set_cons_zero, List.set_cons_succ]
    refine take_at (i := 8) (d := 2) (v := .slice A1 6 c1) rfl rfl (by kernel_rfl) (by kernel_rfl) (by kernel_rfl) (fun _ _ _ h => h) (.inl ⟨by kernel_rfl, fun U hU => by go_simp⟩) hS3 ?_
    simp only [Act.put, List.setIfInBounds_toArray, List.set_cons_zero, List.set_cons_succ]
    obtain ⟨q0, q1, q2, q3, q4, q5, q6⟩ := kh.c7
    obtain ⟨f0, f1, f2, f3, f4, f5, f6⟩ := kh.f7
    have lh := kh.lt
    have LV := Lib.hid (below_set7 hb3 (by omega : w.heap.size ≤ g) (.int .i64 1) (.int .i64 3) (.int .i64 5) (.int .i64 0) (.int .i64 0) (.bool false) (.int .i64 1))
    have KQ := Bk.far7 hS3 (by omega : w.heap.size ≠ g) (.int .i64 1) (.int .i64 3) (.int .i64 5) (.int .i64 0) (.int .i64 0) (.bool false) (.int .i64 1)
    have OV := Lib.hid (own_aside7 o1 hne (.int .i64 1) (.int .i64 3) (.int .i64 5) (.int .i64 0) (.int .i64 0) (.bool false) (.int .i64 1))
    obtain ⟨V, hV⟩ : ∃ V, set7 U3 g (.int .i64 1) (.int .i64 3) (.int .i64 5) (.int .i64 0) (.int .i64 0) (.bool false) (.int .i64 1) = V := ⟨_, rfl⟩
    rw [hV] at LV KQ OV
    unfold set7 at hV
    refine wpAnyH_all (rs := [9]) (by kernel_rfl) (by simp) ?_
    intro i hi
    simp only [List.mem_cons, List.not_mem_nil, or_false] at hi
    subst hi
    unfold wpOp
    go_simp
    left
    clear hV q0 q1 q2 q3 q4 q5 q6 f0 f1 f2 f3 f4 f5 f6 lh kh o1 hne
    refine take_at (i := 10) (d := 4) (v := .bool true) rfl rfl (by kernel_rfl) (by kernel_rfl) (by kernel_rfl) (fun _ _ _ h => h) (.inl ⟨by kernel_rfl, fun U hU => by go_simp⟩) KQ ?_
    simp only [Act.put, List.setIfInBounds_toArray, List.set_cons_zero, List.set_cons_succ]
    refine wpAnyH_done (by kernel_rfl) ?_ _
    clear hS0 hb0 hl0 hS1 hb1 hl1 hS2 hb2 hl2 hS3 hb3 hl3
    have c0 : _ = some (Value.int .i64 0) := KQ.cell 0
    have c1' : _ = some (Value.int .i64 4) := KQ.cell 1
    have lq := KQ.lt
    have KQ := Lib.hid KQ
    clear hgw
    go_wp2_with fail
    refine (live_done A1 c1 _ 1 6 _ OV.out.ints (by decide) ⟨by omega, by omega⟩ _ _ live_2 (by decide)).mono ?_
    rintro e w3 ⟨A2, c2, rfl, o2, b2⟩
    have L3 := below3 LV.out b2
    have k3 := KQ.out.below b2 KQ.out.lt
    clear c0 c1' lq KQ LV OV
    have e0 : _ = some (Value.int .i64 0) := k3.cell 0
    have e1 : _ = some (Value.int .i64 4) := k3.cell 1
    have el := k3.lt
    have ba := (Below.refl w3.heap.size w3).alloc (Nat.le_refl _) (.cells #[.int .i64 1, .int .i64 3, .int .i64 6, .int .i64 0, .int .i64 1, .bool false, .int .i64 1] 27)
    have kn := Bk.new w3 27 #[.int .i64 1, .int .i64 3, .int .i64 6, .int .i64 0, .int .i64 1, .bool false, .int .i64 1]
    have k4 := k3.below ba k3.lt
    have L4 := Lib.hid (below3 L3 ba)
    have OX := Lib.hid (o2.below ba).ints
    have c0 : _ = some (Value.int .i64 0) := k4.cell 0
    have c1' : _ = some (Value.int .i64 4) := k4.cell 1
    have lq := k4.lt
    have K4 := Lib.hid k4
    have KN := Lib.hid kn
    clear ba k3 L3 o2 b2 k4 kn
    unfold hv
    simp only [List.length_cons, List.length_nil, Nat.zero_add, Nat.reduceAdd]
    go_wp2_with fail
    refine (live_done A2 c2 _ 2 0 _ OX.out (by decide) ⟨by omega, by omega⟩ _ _ live_3 (by decide)).mono ?_
    rintro e w4 ⟨A3, c3, rfl, o2, b2⟩
    have L3 := below3 L4.out b2
    have k3 := K4.out.below b2 K4.out.lt
    clear c0 c1' lq K4 L4 OX KN e0 e1 el
    have e0 : _ = some (Value.int .i64 0) := k3.cell 0
    have e1 : _ = some (Value.int .i64 4) := k3.cell 1
    have el := k3.lt
    have ba := (Below.refl w4.heap.size w4).alloc (Nat.le_refl _) (.cells #[.int .i64 2, .int .i64 4, .int .i64 6, .int .i64 0, .int .i64 1, .bool false, .int .i64 1] 27)
    have kn := Bk.new w4 27 #[.int .i64 2, .int .i64 4, .int .i64 6, .int .i64 0, .int .i64 1, .bool false, .int .i64 1]
    have k4 := k3.below ba k3.lt
    have L4 := Lib.hid (below3 L3 ba)
    have OX := Lib.hid (o2.below ba).ints
    have c0 : _ = some (Value.int .i64 0) := k4.cell 0
    have c1' : _ = some (Value.int .i64 4) := k4.cell 1
    have lq := k4.lt
    have K4 := Lib.hid k4
    have KN := Lib.hid kn
    clear ba k3 L3 o2 b2 k4 kn
    unfold hv
    simp only [List.length_cons, List.length_nil, Nat.zero_add, Nat.reduceAdd]
    go_wp2_with fail
    refine (live_done A3 c3 _ 3 0 _ OX.out (by decide) ⟨by omega, by omega⟩ _ _ live_4 (by decide)).mono ?_
    rintro e w5 ⟨A4, c4, rfl, o2, b2⟩
    have L3 := Lib.hid (below3 L4.out b2)
    have kx := KN.out.below b2 KN.out.lt
    obtain ⟨y, hy⟩ : ∃ y, w4.heap.size = y := ⟨_, rfl⟩
    rw [hy] at kx
    have x2 : _ = some (Value.int .i64 6) := kx.cell 2
    have x6 : _ = some (Value.int .i64 1) := kx.cell 6
    have lx := kx.lt
    clear c0 c1' lq K4 L4 OX KN o2 b2 kx e0 e1 el
    unfold hv
    simp only [List.length_cons, List.length_nil, Nat.zero_add, Nat.reduceAdd]
    rw [hy]
    go_wp2
    go_ret
    exact ⟨rfl, L3.out.alloc (by have := L3.out.size; omega) _⟩

end Go.Proofs.Ytfmiamjbhlglbaa

/-
  Contracts of layer 5's New: the program's and the document's.
-/
import Derived.Test.YtfaajimmammfdaaPa
import Derived.WalkSpells
import Derived.Deep.OwnRows
namespace Go.Proofs.Ytfaajimmammfdaa
open Go.RowKit

/-- New places, and an error. -/
def NewPE (gs : List Int) (ls : List Bool) (er : Int) (w : World) (e : Ending) (w' : World) : Prop :=
  ∃ A c B d, e = .returned (.tuple #[.agg #[.slice A gs.length c, .slice B ls.length d], .int .i64 er]) ∧ OwnP w' w.heap.size A c B d gs ls ∧ Below w.heap.size w w'

def zerosN (n : Nat) : List Int := List.replicate n 0
def falsesN (n : Nat) : List Bool := List.replicate n false

theorem newPE_nil {w w' : World} {e : Ending} {er : Int} (he : e = .returned (.tuple #[.agg #[.slice none 0 0, .slice none 0 0], .int .i64 er])) (hb : Below w.heap.size w w') : NewPE [] [] er w e w' :=
  ⟨none, 0, none, 0, he, OwnP.nil_ _ _, hb⟩

set_option maxHeartbeats 1000000 in
theorem new_no (n : Int) (w : World) (h : n < 1 ∨ 256 < n) : Calls Try.prog 10 #[.int .i64 n] w (NewPE [] [] 1 w) := by
  rcases h with h | h
  · go_enter Try.func10, Try.ntmps10
    go_wp2
    exact bodyPost_ret (v := .tuple #[.agg #[.slice none 0 0, .slice none 0 0], .int .i64 1]) (by simp [results, Try.results10, go_sem]) rfl (newPE_nil rfl ((Below.refl w.heap.size w).alloc (Nat.le_refl _) _))
  · have h' : ¬ n < 1 := by omega
    go_enter Try.func10, Try.ntmps10
    go_wp2
    exact bodyPost_ret (v := .tuple #[.agg #[.slice none 0 0, .slice none 0 0], .int .i64 1]) (by simp [results, Try.results10, go_sem]) rfl (newPE_nil rfl ((Below.refl w.heap.size w).alloc (Nat.le_refl _) _))

theorem mkI (n : Nat) (h : n ≤ 256) (W : World) : (Instr.makeSlice 22 (.int .i64 (n : Int)) (.int .i64 (n : Int))).run Try.prog W = .ok (.slice (some ⟨W.heap.size, 0, none⟩) n n) (W.alloc (.cells (madeCells #[.int .i64 0] n) 2)) :=
  run_make_row' (P := Try.prog) 22 2 (.int .i64 0) 8 Try.underlying22 Try.intsInfo rfl .i64 .i64 n (by omega) (by omega) W
theorem mkB (n : Nat) (h : n ≤ 256) (W : World) : (Instr.makeSlice 23 (.int .i64 (n : Int)) (.int .i64 (n : Int))).run Try.prog W = .ok (.slice (some ⟨W.heap.size, 0, none⟩) n n) (W.alloc (.cells (madeCells #[.bool false] n) 4)) :=
  run_make_row' (P := Try.prog) 23 4 (.bool false) 1 Try.underlying23 Try.boolInfo rfl .i64 .i64 n (by omega) (by omega) W

theorem lies_zeros (w : World) (base n : Nat) (hb : base ≤ w.heap.size) (hn : n ≤ 256) (z : Array Value) (hz : madeCells #[Value.int .i64 0] n = z) : OwnI 2 (w.alloc (.cells z 2)) base (some ⟨w.heap.size, 0, none⟩) n (List.replicate n 0) := by
  subst hz
  refine OwnI.zeros (by omega) ?_
  have hs : (madeCells #[Value.int .i64 0] n).size = n * 1 := by
    rw [← Array.length_toList, toList_madeCells_one]; simp
  have := World.ownsRow_lit (base := base) (e := 2) (size := 1) w (madeCells #[Value.int .i64 0] n) n hb (by unfold maxLen; omega) hs
  simpa [Value.cells] using this
theorem lies_falses (w : World) (base n : Nat) (hb : base ≤ w.heap.size) (hn : n ≤ 256) (z : Array Value) (hz : madeCells #[Value.bool false] n = z) : OwnB 4 (w.alloc (.cells z 4)) base (some ⟨w.heap.size, 0, none⟩) n (List.replicate n false) := by
  subst hz
  refine OwnB.falses ?_
  have hs : (madeCells #[Value.bool false] n).size = n * 1 := by
    rw [← Array.length_toList, toList_madeCells_one]; simp
  have := World.ownsRow_lit (base := base) (e := 4) (size := 1) w (madeCells #[Value.bool false] n) n hb (by unfold maxLen; omega) hs
  simpa [Value.cells] using this

theorem newPE_own {w w' : World} {n c d : Nat} {A B : Option Addr} {e : Ending} (he : e = .returned (.tuple #[.agg #[.slice A n c, .slice B n d], .int .i64 0])) (hI : OwnI 2 w' w.heap.size A c (List.replicate n 0)) (hB : OwnB 4 w' w.heap.size B d (List.replicate n false)) (hn : n ≤ 256) (hb : Below w.heap.size w w') :
    NewPE (zerosN n) (falsesN n) 0 w e w' :=
  ⟨A, c, B, d, by rw [he, zerosN, falsesN, List.length_replicate, List.length_replicate], ⟨hI, hB, by rw [falsesN, List.length_replicate]; omega⟩, hb⟩

set_option maxHeartbeats 2000000 in
theorem new_yes (n : Nat) (w : World) (h : 1 ≤ n) (h2 : n ≤ 256) : Calls Try.prog 10 #[.int .i64 (n : Int)] w (NewPE (zerosN n) (falsesN n) 0 w) := by
  have m1 := mkI n h2
  have m2 := mkB n h2
  obtain ⟨z1, hz1⟩ : ∃ z, madeCells #[Value.int .i64 0] n = z := ⟨_, rfl⟩
  obtain ⟨z2, hz2⟩ : ∃ z, madeCells #[Value.bool false] n = z := ⟨_, rfl⟩
  rw [hz1] at m1
  rw [hz2] at m2
  have Z1 := Lib.hid hz1
  have Z2 := Lib.hid hz2
  clear hz1 hz2
  go_enter Try.func10, Try.ntmps10
  go_wp2
  go_region
  · clear m1 m2
    go_wp2
    refine bodyPost_ret (v := .tuple #[.agg #[.slice (some ⟨w.heap.size + 1, 0, none⟩) n n, .slice (some ⟨w.heap.size + 1 + 1, 0, none⟩) n n], .int .i64 0]) (by simp [results, Try.results10, go_sem]) rfl ?_
    have hb1 := (Below.refl w.heap.size w).alloc (Nat.le_refl _) (.cells #[.slice (some ⟨w.heap.size + 1, 0, none⟩) n n, .slice (some ⟨w.heap.size + 1 + 1, 0, none⟩) n n] 25)
    have hb2 := hb1.alloc (by simp) (.cells z1 2)
    have hb3 := hb2.alloc (by simp; omega) (.cells z2 4)
    have hI := lies_zeros (w.alloc (.cells #[.slice (some ⟨w.heap.size + 1, 0, none⟩) n n, .slice (some ⟨w.heap.size + 1 + 1, 0, none⟩) n n] 25)) w.heap.size n (by simp) h2 z1 Z1.out
    have hB := lies_falses ((w.alloc (.cells #[.slice (some ⟨w.heap.size + 1, 0, none⟩) n n, .slice (some ⟨w.heap.size + 1 + 1, 0, none⟩) n n] 25)).alloc (.cells z1 2)) w.heap.size n (by simp; omega) h2 z2 Z2.out
    replace hI := hI.below ((Below.refl _ _).alloc (Nat.le_refl _) (.cells z2 4))
    simp only [size_alloc] at hI hB
    exact newPE_own rfl (hI.below (Below.refl _ _).drew) (hB.below (Below.refl _ _).drew) h2 hb3.drew
  · clear m1 m2
    go_wp2
    refine bodyPost_ret (v := .tuple #[.agg #[.slice (some ⟨w.heap.size + 1 + 1, 0, none⟩) n n, .slice (some ⟨w.heap.size + 1, 0, none⟩) n n], .int .i64 0]) (by simp [results, Try.results10, go_sem]) rfl ?_
    have hb1 := (Below.refl w.heap.size w).alloc (Nat.le_refl _) (.cells #[.slice (some ⟨w.heap.size + 1 + 1, 0, none⟩) n n, .slice (some ⟨w.heap.size + 1, 0, none⟩) n n] 25)
    have hb2 := hb1.alloc (by simp) (.cells z2 4)
    have hb3 := hb2.alloc (by simp; omega) (.cells z1 2)
    have hB := lies_falses (w.alloc (.cells #[.slice (some ⟨w.heap.size + 1 + 1, 0, none⟩) n n, .slice (some ⟨w.heap.size + 1, 0, none⟩) n n] 25)) w.heap.size n (by simp) h2 z2 Z2.out
    have hI := lies_zeros ((w.alloc (.cells #[.slice (some ⟨w.heap.size + 1 + 1, 0, none⟩) n n, .slice (some ⟨w.heap.size + 1, 0, none⟩) n n] 25)).alloc (.cells z2 4)) w.heap.size n (by simp; omega) h2 z1 Z1.out
    replace hB := hB.below ((Below.refl _ _).alloc (Nat.le_refl _) (.cells z1 2))
    simp only [size_alloc] at hI hB
    exact newPE_own rfl (hI.below (Below.refl _ _).drew) (hB.below (Below.refl _ _).drew) h2 hb3.drew

/-! ### The document's -/

set_option maxHeartbeats 1000000 in
theorem rnew_no (n : Int) (w : World) (h : n < 1 ∨ 256 < n) : Calls Try.prog 11 #[.int .i64 n] w (NewPE [] [] 1 w) := by
  rcases h with h | h
  · go_enter Try.func11, Try.ntmps11
    go_wp2
    exact bodyPost_ret (v := .tuple #[.agg #[.slice none 0 0, .slice none 0 0], .int .i64 1]) (by simp [results, Try.results11, go_sem]) rfl (newPE_nil rfl ((Below.refl w.heap.size w).alloc (Nat.le_refl _) _))
  · have h' : ¬ n < 1 := by omega
    go_enter Try.func11, Try.ntmps11
    go_wp2
    exact bodyPost_ret (v := .tuple #[.agg #[.slice none 0 0, .slice none 0 0], .int .i64 1]) (by simp [results, Try.results11, go_sem]) rfl (newPE_nil rfl ((Below.refl w.heap.size w).alloc (Nat.le_refl _) _))

/-- What lies there in the loop: the places so far, in a block of their own. -/
structure NwS (w wr : World) (g k : Nat) (A : Option Addr) (c m : Nat) (B : Option Addr) (d : Nat) : Prop where
  box : Bk wr g 25 #[.slice A k c, .slice B m d]
  gs : OwnI 2 wr (g + 1) A c (List.replicate k 0)
  ls : OwnB 4 wr (g + 1) B d (List.replicate m false)
  res : Bk wr w.heap.size 25 #[.slice none 0 0, .slice none 0 0]
  lt : w.heap.size < g
  below : Below w.heap.size w wr

theorem NwS.int {w wr w1 : World} {g k m : Nat} {A A1 B : Option Addr} {c c1 d : Nat} (S : NwS w wr g k A c m B d) {X : Obj} (hg : (wr.alloc X).grownBy w1 (Value.slice A k c).ownBlock) (ho : OwnI 2 w1 (g + 1) A1 c1 (List.replicate k 0 ++ [0])) :
    NwS w (w1.setCell ⟨g, 0, none⟩ (.slice A1 (k + 1) c1)) g (k + 1) A1 c1 m B d := by
  have ha := (Below.refl wr.heap.size wr).alloc (Nat.le_refl _) X
  have O := S.gs.block (n := k) (d := c)
  have hne := (rowsIB_ne (n := k) (d := c) (n' := (List.replicate m false).length) (d' := d) S.gs S.ls (by decide)).2
  refine ⟨?_, ?_, ?_, ?_, S.lt, ?_⟩
  · have := ((S.box.alloc X).grown hg (own_apart O (Nat.le_refl _))).set_ 0 (.slice A1 (k + 1) c1)
    simpa using this
  · rw [List.replicate_succ']
    exact ho.far (p := ⟨g, 0, none⟩) (Nat.lt_succ_self _) _
  · exact ((S.ls.below ha).grown hg hne).far (p := ⟨g, 0, none⟩) (Nat.lt_succ_self _) _
  · exact ((S.res.alloc X).grown hg (own_apart O (Nat.le_of_lt S.lt))).far (p := ⟨g, 0, none⟩) (Nat.ne_of_lt S.lt) _
  · exact ((S.below.alloc S.below.size X).grown hg (S.below.alloc S.below.size X).size (fun b hb => by have := O b hb; have := S.lt; omega)).setCell (p := ⟨g, 0, none⟩) (Nat.le_of_lt S.lt) _

theorem NwS.bool {w wr w1 : World} {g k m : Nat} {A B B1 : Option Addr} {c d d1 : Nat} (S : NwS w wr g k A c m B d) {X : Obj} (hg : (wr.alloc X).grownBy w1 (Value.slice B m d).ownBlock) (ho : OwnB 4 w1 (g + 1) B1 d1 (List.replicate m false ++ [false])) :
    NwS w (w1.setCell ⟨g, 1, none⟩ (.slice B1 (m + 1) d1)) g k A c (m + 1) B1 d1 := by
  have ha := (Below.refl wr.heap.size wr).alloc (Nat.le_refl _) X
  have O := S.ls.block (n := m) (d := d)
  have hne := (rowsIB_ne (n := (List.replicate k (0 : Int)).length) (d := c) (n' := m) (d' := d) S.gs S.ls (by decide)).1
  refine ⟨?_, ?_, ?_, ?_, S.lt, ?_⟩
  · have := ((S.box.alloc X).grown hg (own_apart O (Nat.le_refl _))).set_ 1 (.slice B1 (m + 1) d1)
    simpa using this
  · exact ((S.gs.below ha).grown hg hne).far (p := ⟨g, 1, none⟩) (Nat.lt_succ_self _) _
  · rw [List.replicate_succ']
    exact ho.far (p := ⟨g, 1, none⟩) (Nat.lt_succ_self _) _
  · exact ((S.res.alloc X).grown hg (own_apart O (Nat.le_of_lt S.lt))).far (p := ⟨g, 1, none⟩) (Nat.ne_of_lt S.lt) _
  · exact ((S.below.alloc S.below.size X).grown hg (S.below.alloc S.below.size X).size (fun b hb => by have := O b hb; have := S.lt; omega)).setCell (p := ⟨g, 1, none⟩) (Nat.le_of_lt S.lt) _

theorem NwS.done {w wr : World} {g k : Nat} {A B : Option Addr} {c d : Nat} (S : NwS w wr g k A c k B d) (hk : k ≤ 256) :
    NewPE (zerosN k) (falsesN k) 0 w (.returned (.tuple #[.agg #[.slice A k c, .slice B k d], .int .i64 0])) ((wr.setCell ⟨w.heap.size, 0, none⟩ (.slice A k c)).setCell ⟨w.heap.size, 1, none⟩ (.slice B k d)) :=
  newPE_own rfl (((S.gs.far (p := ⟨w.heap.size, 0, none⟩) (Nat.lt_succ_of_lt S.lt) _).far (p := ⟨w.heap.size, 1, none⟩) (Nat.lt_succ_of_lt S.lt) _).base (by have := S.lt; omega)) (((S.ls.far (p := ⟨w.heap.size, 0, none⟩) (Nat.lt_succ_of_lt S.lt) _).far (p := ⟨w.heap.size, 1, none⟩) (Nat.lt_succ_of_lt S.lt) _).base (by have := S.lt; omega)) hk
    ((S.below.setCell (p := ⟨w.heap.size, 0, none⟩) (Nat.le_refl _) _).setCell (p := ⟨w.heap.size, 1, none⟩) (Nat.le_refl _) _)

def NwRel (w : World) (g n : Nat) (t : Value) (wr : World) : Prop := ∃ k : Nat, k ≤ n ∧ t = .int .i64 k ∧ ∃ A c B d, NwS w wr g k A c k B d

theorem flags1_set (w : World) (p : Addr) (u : Value) (E : TypeId) (x : Bool) : Flags ((w.setCell p u).alloc (.cells #[.bool x] E)) (some ⟨w.heap.size, 0, none⟩) 1 [x] := by
  have h := flags1 (w.setCell p u) E x
  have e : (w.setCell p u).heap.size = w.heap.size := by simp [World.setCell]
  rwa [e] at h

set_option maxHeartbeats 4000000 in
theorem rnew_yes (n : Nat) (w : World) (h : 1 ≤ n) (h2 : n ≤ 256) : Calls Try.prog 11 #[.int .i64 (n : Int)] w (NewPE (zerosN n) (falsesN n) 0 w) := by
  have k1 := Bk.alloc (Bk.new w 25 #[.slice none 0 0, .slice none 0 0]) (.cells #[.slice none 0 0, .slice none 0 0] 25)
  have k2 := Bk.new (w.alloc (.cells #[.slice none 0 0, .slice none 0 0] 25)) 25 #[.slice none 0 0, .slice none 0 0]
  rw [size_alloc] at k2
  have S0 := Lib.hid (NwS.mk (A := none) (c := 0) (B := none) (d := 0) (k := 0) (m := 0) k2 (OwnI.nil_ _ _ _) (OwnB.nil_ _ _ _) k1 (by omega) (((Below.refl w.heap.size w).alloc (Nat.le_refl _) _).alloc (by simp) _))
  clear k1 k2
  go_enter Try.func11, Try.ntmps11
  go_wp2
  go_loopw [14] (fun t wr => NwRel w (w.heap.size + 1) n t wr) (fun t _ => n - (intOf t).toNat)
  case atStart => exact ⟨0, Nat.zero_le _, rfl, none, 0, none, 0, S0.out⟩
  case round =>
    obtain ⟨k, hk, rfl, A, c, B, d, hs⟩ := hrel
    have S := Lib.hid hs
    clear hs
    by_cases hlt : k < n
    · have a0 := S.out.box.c0
      have a1 := S.out.box.c1
      have f0 := S.out.box.frozen 0
      have f1 := S.out.box.frozen 1
      have ha := (Below.refl wr.heap.size wr).alloc (Nat.le_refl _) (.cells #[.int .i64 0] 2)
      have HL := Lib.hid (Nat.lt_of_lt_of_le S.out.box.lt ha.size)
      have O1 := Lib.hid (S.out.gs.below ha)
      go_wp2_with (at_builtin; refine wpList_append_ints _ rfl _ _ 22 rfl 2 Try.underlying22 Try.intsInfo (w.heap.size + 2) A c (List.replicate k 0) k (by simp) rfl O1.out (some ⟨wr.heap.size, 0, none⟩) 1 1 [0] rfl (ints1 wr 2 fit0) (by simp; omega) HL.out ?_)
      intro A1 c1 w1 ho1 hg1
      have S1 := Lib.hid (S.out.int hg1 ho1)
      have b0 := (((S.out.box.alloc (.cells #[.int .i64 0] 2)).grown hg1 (own_apart (S.out.gs.block (n := k) (d := c)) (Nat.le_refl _))).frozen 0)
      have b4 := (((S.out.box.alloc (.cells #[.int .i64 0] 2)).grown hg1 (own_apart (S.out.gs.block (n := k) (d := c)) (Nat.le_refl _))).c0)
      have b1 := S1.out.box.c0
      have b2 := S1.out.box.c1
      have b3 := S1.out.box.frozen 1
      have hb := (Below.refl (w1.setCell ⟨w.heap.size + 1, 0, none⟩ (.slice A1 (k + 1) c1)).heap.size (w1.setCell ⟨w.heap.size + 1, 0, none⟩ (.slice A1 (k + 1) c1))).alloc (Nat.le_refl _) (.cells #[.bool false] 4)
      have HL2 := Lib.hid (Nat.lt_of_lt_of_le S1.out.box.lt hb.size)
      have O2 := Lib.hid (S1.out.ls.below hb)
      clear ho1 hg1 a0 a1 f0 f1 ha S hb
      go_wp2_with (at_builtin; refine wpList_append_flags _ rfl _ _ 23 rfl 4 Try.underlying23 Try.boolInfo (w.heap.size + 2) B d (List.replicate k false) k (by simp) rfl O2.out (some ⟨w1.heap.size, 0, none⟩) 1 1 [false] rfl (flags1_set _ _ _ 4 false) (by simp; omega) HL2.out ?_)
      intro B1 d1 w2 ho2 hg2
      have S2 := Lib.hid (S1.out.bool hg2 ho2)
      have d0 := (((S1.out.box.alloc (.cells #[.bool false] 4)).grown hg2 (own_apart (S1.out.ls.block (n := k) (d := d)) (Nat.le_refl _))).frozen 1)
      have d2 := (((S1.out.box.alloc (.cells #[.bool false] 4)).grown hg2 (own_apart (S1.out.ls.block (n := k) (d := d)) (Nat.le_refl _))).c1)
      clear ho2 hg2 b0 b1 b2 b3 b4 S1
      go_wp2
      go_roundw
      case rel => exact ⟨k + 1, by omega, by go_num, A1, c1, B1, d1, S2.out⟩
      case measure => simp [intOf]; omega
    · obtain rfl : k = n := by omega
      have a0 := S.out.box.c0
      have a1 := S.out.box.c1
      have r0 := S.out.res.c0
      have r1 := S.out.res.c1
      have f0 := S.out.res.frozen 0
      have f1 := S.out.res.frozen 1
      have D := Lib.hid (S.out.done h2)
      clear S
      go_wp2
      exact bodyPost_ret (v := .tuple #[.agg #[.slice A k c, .slice B k d], .int .i64 0]) (by simp [results, Try.results11, go_sem, *]) rfl D.out

end Go.Proofs.Ytfaajimmammfdaa

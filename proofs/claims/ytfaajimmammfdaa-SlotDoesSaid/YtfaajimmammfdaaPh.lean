/-
  Contracts of layer 5's Free: the program's.
-/
import Derived.Test.YtfaajimmammfdaaPt
import Derived.Test.YtfaajimmammfdaaPf
namespace Go.Proofs.Ytfaajimmammfdaa
open Go.RowKit

open Classical in
/-- What Free answers. -/
noncomputable def freeF (gs : List Int) (ls : List Bool) (id : Int) : List Int × List Bool × Int :=
  if findE gs ls id = 0 then (gs.set (id % 256).toNat (nth gs (id % 256).toNat + 1), ls.set (id % 256).toNat false, 0) else ([], [], findE gs ls id)
theorem freeF_no {gs : List Int} {ls : List Bool} {id : Int} (h : findE gs ls id ≠ 0) : freeF gs ls id = ([], [], findE gs ls id) := if_neg h
theorem freeF_at {gs : List Int} {ls : List Bool} {i : Nat} (h : okS gs ls) (hi : i < gs.length) (hl : bth ls i = true) : findE gs ls (idP gs i) = 0 ∧ findN gs ls (idP gs i) = (i : Int) ∧ freeF gs ls (idP gs i) = (gs.set i (nth gs i + 1), ls.set i false, 0) := by
  have h256 := h.2.1
  obtain ⟨e1, e2⟩ := id_place (gs := gs) (i := i) (by omega)
  have e3 : (idP gs i % 256).toNat = i := by omega
  have e : findE gs ls (idP gs i) = 0 := find_ok.2 ⟨h, i, hi, hl, rfl⟩
  exact ⟨e, by rw [findN, if_pos e, e1], by rw [freeF, if_pos e, e3]⟩
theorem findE_pos {gs : List Int} {ls : List Bool} {id : Int} : findE gs ls id = 0 ∨ findE gs ls id = 1 ∨ findE gs ls id = 5 ∨ findE gs ls id = 8 := by
  unfold findE
  split
  · simp
  · split
    · simp
    · split
      · simp
      · split <;> simp

theorem newPE_of {w w' : World} {m c d : Nat} {A B : Option Addr} {gs : List Int} {ls : List Bool} {er : Int} {e : Ending} (hN : gs.length = m) (hM : ls.length = m) (he : e = .returned (.tuple #[.agg #[.slice A m c, .slice B m d], .int .i64 er])) (ho : OwnP w' w.heap.size A c B d gs ls) (hb : Below w.heap.size w w') : NewPE gs ls er w e w' := by
  subst hN
  exact ⟨A, c, B, d, by rw [he, hM], ho, hb⟩

set_option maxHeartbeats 2000000 in
theorem free_no (A B : Option Addr) (n c m d : Nat) (gs : List Int) (ls : List Bool) (id er : Int) (w : World) (hp : Plc w A n B m gs ls) (hid : Fit id) (he : findE gs ls id = er) (h : er = 1 ∨ er = 5 ∨ er = 8) :
    Calls Try.prog 16 #[.agg #[.slice A n c, .slice B m d], .int .i64 id] w (NewPE [] [] er w) := by
  obtain ⟨k1, k2, hb0⟩ := lies2 w #[.slice A n c, .slice B m d] #[.slice none 0 0, .slice none 0 0] 25 25
  have HP := Lib.hid (hp.below hb0)
  have K1 := Lib.hid k1
  have K2 := Lib.hid k2
  have B0 := Lib.hid hb0
  have HE := Lib.hid he
  have HN0 : Hid (findN gs ls id = 0) := Lib.hid (by rw [findN, if_neg (by omega)])
  have a0 := K1.out.c0
  have a1 := K1.out.c1
  have h0 : (er != 0) = true := by rcases h with rfl | rfl | rfl <;> rfl
  clear hp k1 k2 hb0 he h
  go_enter Try.func16, Try.ntmps16
  go_wp2_with fail
  refine (find_any A B n c m d gs ls id _ HP.out hid).mono ?_
  rintro e w1 ⟨rfl, hb1⟩
  rw [HE.out, HN0.out]
  have B1 := Lib.hid (below3 B0.out hb1)
  have J2 := Lib.hid (K2.out.below hb1 K2.out.lt)
  clear hb1 K1 K2 a0 a1 HP B0 HE
  have r0 := J2.out.c0
  have r1 := J2.out.c1
  have f0 := J2.out.frozen 0
  have f1 := J2.out.frozen 1
  have HB := Lib.hid ((B1.out.setCell (p := ⟨w.heap.size + 1, 0, none⟩) (Nat.le_succ _) (.slice none 0 0)).setCell (p := ⟨w.heap.size + 1, 1, none⟩) (Nat.le_succ _) (.slice none 0 0))
  go_wp2
  exact bodyPost_ret (v := .tuple #[.agg #[.slice none 0 0, .slice none 0 0], .int .i64 er]) (by simp [results, Try.results16, go_sem, *]) rfl (newPE_nil rfl HB.out)

set_option maxHeartbeats 4000000 in
theorem free_yes (A B : Option Addr) (n c m d : Nat) (gs : List Int) (ls : List Bool) (i : Nat) (w : World) (hp : Plc w A n B m gs ls) (h : okS gs ls) (hi : i < gs.length) (hl : bth ls i = true) (hid : Fit (idP gs i)) :
    Calls Try.prog 16 #[.agg #[.slice A n c, .slice B m d], .int .i64 (idP gs i)] w (NewPE (gs.set i (nth gs i + 1)) (ls.set i false) 0 w) := by
  obtain ⟨k1, k2, hb0⟩ := lies2 w #[.slice A n c, .slice B m d] #[.slice none 0 0, .slice none 0 0] 25 25
  obtain ⟨he, hn, -⟩ := freeF_at h hi hl
  obtain ⟨g0, -, g2⟩ := h.2.2.2 i hi
  have g1 := g2 hl
  obtain ⟨x, hx⟩ : ∃ x, nth gs i = x := ⟨_, rfl⟩
  have HX := Lib.hid hx
  rw [hx] at g0 g1 ⊢
  have hfx : Fit (x + 1) := by unfold Fit; omega
  have hmn : m = n := by have := h.2.2.1; have := hp.g.1; have := hp.l.1; omega
  subst hmn
  have hm : m ≤ 256 := by have := h.2.1; have := hp.g.1; omega
  have him : i < m := by have := hp.g.1; omega
  have HP := Lib.hid (hp.below hb0)
  have HN := Lib.hid hp.g.1
  have HM := Lib.hid hp.l.1
  have K1 := Lib.hid k1
  have K2 := Lib.hid k2
  have B0 := Lib.hid hb0
  have HE := Lib.hid he
  have HFN := Lib.hid hn
  have a0 := K1.out.c0
  have a1 := K1.out.c1
  obtain ⟨id, hidd⟩ : ∃ id, idP gs i = id := ⟨_, rfl⟩
  have HID := Lib.hid hidd
  rw [hidd] at hid ⊢
  clear hp k1 k2 hb0 h he hn g2 hx hl hi hidd
  go_enter Try.func16, Try.ntmps16
  go_wp2_with fail
  refine (find_any A B m c m d gs ls id _ HP.out hid).mono ?_
  rintro e w1 ⟨rfl, hb1⟩
  rw [← HID.out, HE.out, HFN.out]
  have B1 := Lib.hid (below3 B0.out hb1)
  have P1 := Lib.hid (HP.out.below hb1)
  have J1 := Lib.hid (K1.out.below hb1 K1.out.lt)
  have J2 := Lib.hid (K2.out.below hb1 K2.out.lt)
  clear hb1 K1 K2 a0 a1 HP B0 hid
  have a0 := J1.out.c0
  have a1 := J1.out.c1
  go_wp2_with fail
  refine (clone_any A B m c m d gs ls _ P1.out).mono ?_
  rintro e w3 ⟨A', c', B', d', rfl, ho, hb3⟩
  have B3 := Lib.hid (below3 B1.out hb3)
  have M3 := J2.out.below hb3 J2.out.lt
  have hres := J2.out.lt
  have HO := ho
  have hlB : i < ls.length := by rw [HM.out]; exact him
  have hlA : i < gs.length := by rw [HN.out]; exact him
  clear hb3 ho a0 a1 J1 J2
  obtain ⟨gB, rfl, hgB1, hgB2, -, -⟩ := HO.l.form (by omega)
  obtain ⟨gA, rfl, hgA1, hgA2, -, -⟩ := HO.g.form (by omega)
  have n0 : ¬ (gA = gB) := by
    rcases (rowsIB_ne (n := 0) (d := 0) (n' := 0) (d' := 0) HO.g HO.l (by decide)).1 with e | e
    · simp [Value.ownBlock] at e
    · simpa [Value.ownBlock] using e
  have ha := (Below.refl w3.heap.size w3).alloc (Nat.le_refl _) (.cells #[.slice (some ⟨gA, 0, none⟩) m c', .slice (some ⟨gB, 0, none⟩) m d'] 25)
  have O4 := HO.below ha
  have K4 := Bk.new w3 25 #[.slice (some ⟨gA, 0, none⟩) m c', .slice (some ⟨gB, 0, none⟩) m d']
  have M4 := M3.alloc (.cells #[.slice (some ⟨gA, 0, none⟩) m c', .slice (some ⟨gB, 0, none⟩) m d'] 25)
  have n1 : ¬ (w3.heap.size = gB) := by omega
  have n2 : ¬ (gB = w3.heap.size) := by omega
  have n3 : ¬ (w.heap.size + 1 = gB) := by omega
  have n4 : ¬ (w3.heap.size = w.heap.size + 1) := by omega
  have n5 : ¬ (w3.heap.size = gA) := by omega
  have n6 : ¬ (gA = w3.heap.size) := by omega
  have n7 : ¬ (w.heap.size + 1 = gA) := by omega
  have n8 : ¬ (gB = gA) := by omega
  obtain ⟨cB, fB⟩ := O4.l.at_ hlB
  obtain ⟨cA, fA⟩ := O4.g.at_ hlA
  rw [HX.out] at cA
  have k0 := K4.c0
  have k1 := K4.c1
  have O5 := Lib.hid (O4.setL i false)
  have O6 := Lib.hid (O5.out.setG i hfx)
  have K6 := Lib.hid ((K4.far (p := ⟨gB, i, none⟩) n1 (.bool false)).far (p := ⟨gA, i, none⟩) n5 (.int .i64 (x + 1)))
  have M6 := Lib.hid ((M4.far (p := ⟨gB, i, none⟩) n3 (.bool false)).far (p := ⟨gA, i, none⟩) n7 (.int .i64 (x + 1)))
  have B6 := Lib.hid (((B3.out.alloc B3.out.size (.cells #[.slice (some ⟨gA, 0, none⟩) m c', .slice (some ⟨gB, 0, none⟩) m d'] 25)).setCell (p := ⟨gB, i, none⟩) (Nat.le_trans B1.out.size hgB1) (.bool false)).setCell (p := ⟨gA, i, none⟩) (Nat.le_trans B1.out.size hgA1) (.int .i64 (x + 1)))
  have d0 := K6.out.c0
  have d1 := K6.out.c1
  have r0 := M6.out.c0
  have r1 := M6.out.c1
  have f0 := M6.out.frozen 0
  have f1 := M6.out.frozen 1
  have HF := Lib.hid (newPE_of ((List.length_set ..).trans HN.out) ((List.length_set ..).trans HM.out) (er := 0) (c := c') (d := d') rfl (((O6.out.far (p := ⟨w.heap.size + 1, 0, none⟩) hres (.slice (some ⟨gA, 0, none⟩) m c')).far (p := ⟨w.heap.size + 1, 1, none⟩) hres (.slice (some ⟨gB, 0, none⟩) m d')).base B1.out.size)
    ((B6.out.setCell (p := ⟨w.heap.size + 1, 0, none⟩) (Nat.le_succ _) (.slice (some ⟨gA, 0, none⟩) m c')).setCell (p := ⟨w.heap.size + 1, 1, none⟩) (Nat.le_succ _) (.slice (some ⟨gB, 0, none⟩) m d')))
  rw [HN.out, HM.out]
  clear O4 K4 M4 ha hgB1 hgB2 hgA1 hgA2 hres HO hlA hlB M3 O5 O6 K6 M6 B6
  go_wp2
  exact bodyPost_ret (v := .tuple #[.agg #[.slice (some ⟨gA, 0, none⟩) m c', .slice (some ⟨gB, 0, none⟩) m d'], .int .i64 0]) (by simp [results, Try.results16, go_sem, *]) rfl HF.out

theorem free_any (A B : Option Addr) (n c m d : Nat) (gs : List Int) (ls : List Bool) (id : Int) (w : World) (hp : Plc w A n B m gs ls) (hid : Fit id) :
    Calls Try.prog 16 #[.agg #[.slice A n c, .slice B m d], .int .i64 id] w (NewPE (freeF gs ls id).1 (freeF gs ls id).2.1 (freeF gs ls id).2.2 w) := by
  by_cases h : findE gs ls id = 0
  · obtain ⟨hok, i, hi, hl, rfl⟩ := find_ok.1 h
    rw [(freeF_at hok hi hl).2.2]
    exact free_yes A B n c m d gs ls i w hp hok hi hl hid
  · rw [freeF_no h]
    refine free_no A B n c m d gs ls id (findE gs ls id) w hp hid rfl ?_
    rcases findE_pos (gs := gs) (ls := ls) (id := id) with e | e | e | e
    · exact absurd e h
    · exact .inl e
    · exact .inr (.inl e)
    · exact .inr (.inr e)

end Go.Proofs.Ytfaajimmammfdaa

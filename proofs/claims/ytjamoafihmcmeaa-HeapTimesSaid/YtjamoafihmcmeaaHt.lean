/-
  Layer 8, the program: a row of timers sorted by the library; a heap's timers, in order.
-/
import Derived.Test.YtjamoafihmcmeaaHs
namespace Go.Proofs.Ytjamoafihmcmeaa
open Go.RowKit Go.Shelf
open Go.Sort (flatK get_flatK size_flatK HoldsK putRowK)

instance (a b : Tm) : Decidable (leT a b) := by unfold leT; exact inferInstance
theorem ltT (x y : Tm) : ltOf orderZ x y = decide (lessT x y) := by
  unfold ltOf
  rw [decide_eq_decide]
  exact orderZ_lt x y
theorem swoT : Go.Sort.SWO (ltOf orderZ) where
  irrefl x := by rw [ltT]; simp [lessT]
  trans x y z h1 h2 := by rw [ltT] at *; simp only [decide_eq_true_eq] at *; unfold lessT at *; omega
  ntrans x y z h1 h2 := by rw [ltT] at *; simp only [decide_eq_false_iff_not] at *; unfold lessT at *; omega
theorem onlyT (x y : Tm) (h1 : ltOf orderZ x y = false) (h2 : ltOf orderZ y x = false) : x = y := by
  rw [ltT] at h1 h2
  simp only [decide_eq_false_iff_not] at h1 h2
  exact leT_anti h2 h1
theorem merge_order (l : List Tm) : l.mergeSort (fun x y => !ltOf orderZ y x) = orderF l := by
  have e : (fun x y => !ltOf orderZ y x) = fun x y : Tm => decide (leT x y) := by
    funext x y
    rw [ltT]
    unfold leT
    by_cases h : lessT y x <;> simp [h]
  rw [e]
  refine (orderF_of_srt ?_ (List.mergeSort_perm l _)).symm
  have h := List.pairwise_mergeSort (le := fun x y : Tm => decide (leT x y)) (fun a b c h1 h2 => decide_eq_true (leT_trans (of_decide_eq_true h1) (of_decide_eq_true h2))) (fun a b => by
    rcases leT_total a b with h | h
    · simp [h]
    · simp [h]) l
  exact h.imp (fun h => of_decide_eq_true h)

theorem flat_cells (l : List Tm) : (flatK cells2 2 l.toArray).toList = cellsP l := by
  refine List.ext_getElem? fun t => ?_
  by_cases ht : t < l.length * 2
  · have hq : t / 2 < l.length := by omega
    have h1 : (flatK cells2 2 l.toArray)[t]! = (cells2 l.toArray[t / 2]!)[t % 2]! := get_flatK cells2 2 l.toArray t (by simpa using ht)
    have h2 : (flatK cells2 2 l.toArray).toList[t]? = some ((flatK cells2 2 l.toArray)[t]!) := by
      rw [Array.getElem?_toList, getElem!_pos _ t (by simpa using ht)]
      exact Array.getElem?_eq_getElem _
    rw [h2, h1]
    have h3 : l.toArray[t / 2]! = ith l (t / 2) := by
      rw [getElem!_pos _ (t / 2) (by simpa using hq), ith_get hq]
      simp
    rw [h3]
    obtain ⟨d0, d1⟩ := cellsP_at l hq
    have hr : t % 2 = 0 ∨ t % 2 = 1 := by omega
    rcases hr with hr | hr
    · rw [hr, show t = t / 2 * 2 by omega, d0]
      rw [show t / 2 * 2 / 2 = t / 2 by omega]
      rfl
    · rw [hr, show t = t / 2 * 2 + 1 by omega, d1]
      rw [show (t / 2 * 2 + 1) / 2 = t / 2 by omega]
      rfl
  · rw [List.getElem?_eq_none (by rw [Array.length_toList]; simp; omega), List.getElem?_eq_none (by rw [cellsP_len]; omega)]
theorem flat_at (l : List Tm) {t : Nat} (ht : t < l.length * 2) : (cellsP l)[t]? = some ((flatK cells2 2 l.toArray)[t]!) := by
  rw [← flat_cells, Array.getElem?_toList, getElem!_pos _ t (by simpa using ht)]
  exact Array.getElem?_eq_getElem _
theorem holds_row {w : World} {base g c : Nat} {l : List Tm} (h : RowT w base g c l) : HoldsK cells2 2 w g 0 l.toArray := by
  intro j hj
  have hj' : j < l.length * 2 := by simpa using hj
  refine ⟨?_, h.2.2.frozenAt _⟩
  rw [Nat.zero_add, h.2.2.cellAt j hj', flat_at l hj']
  rfl
theorem row_sorted {w : World} {base g c : Nat} {l l' : List Tm} (h : RowT w base g c l) (hl : l'.length = l.length) (hf : ∀ x ∈ l', FitI x) (m : Nat) (os : Array Obj) :
    RowT (sortWorldK cells2 2 w g 0 m l'.toArray os) base g c l' ∧ w.grownBy (sortWorldK cells2 2 w g 0 m l'.toArray os) (some g) := by
  have hlt := h.lt.2
  obtain ⟨h1, h2, h3, h4⟩ := h
  have hsz : (putRowK cells2 2 (Go.Sort.ahead w m) g 0 l'.toArray).heap.size = w.heap.size := by simp [putRowK]
  have hblk : ∀ k, k < w.heap.size → (sortWorldK cells2 2 w g 0 m l'.toArray os).heap[k]? = if g = k then (w.heap[k]?).map (Go.Sort.onCells (Go.Sort.putCells id 0 (flatK cells2 2 l'.toArray))) else w.heap[k]? := by
    intro k hk
    unfold sortWorldK
    rw [Go.Sort.heap_grow_old _ _ (by rw [hsz]; exact hk)]
    show ((w.heap.modify g _))[k]? = _
    rw [Array.getElem?_modify]
  refine ⟨⟨by omega, hf, by rw [cellsP_len], ?_⟩, ⟨rfl, rfl, rfl, ?_, fun k hk hne => ?_⟩⟩
  · rcases h4 with ⟨e, _⟩ | ⟨g', cap, cur, e, a1, a2, a3, a4, a5, a6⟩
    · simp at e
    · simp only [Value.slice.injEq, Option.some.injEq, Addr.mk.injEq, and_true, true_and] at e
      obtain ⟨rfl, rfl⟩ := e
      refine .inr ⟨g, c, Go.Sort.putCells id 0 (flatK cells2 2 l'.toArray) cur, rfl, a1, ?_, by omega, a4, by simpa [Go.Sort.putCells] using a5, ?_⟩
      · rw [hblk g hlt, if_pos rfl, a2]
        rfl
      · refine List.ext_getElem? fun t => ?_
        by_cases ht : t < l'.length * 2
        · rw [List.getElem?_take_of_lt ht, flat_at l' ht, Array.getElem?_toList]
          unfold Go.Sort.putCells
          rw [Array.getElem?_mapIdx, Array.getElem?_eq_getElem (show t < cur.size by rw [a5]; omega)]
          simp [show t < l'.length * 2 from ht]
        · rw [List.getElem?_eq_none (by rw [List.length_take]; omega), List.getElem?_eq_none (by rw [cellsP_len]; omega)]
  · unfold sortWorldK
    rw [Go.Sort.size_grow, hsz]
    omega
  · rw [hblk k hk, if_neg (fun q => hne (by rw [q]))]

theorem cmpT (g size : Nat) (w : World) : CmpLays Try.prog 46 #[] cells2 2 orderZ g 0 size w := fun _ _ _ _ x y => horder_any x.1 x.2 y.1 y.2 _
theorem eg_order (args : Array Value) (w : World) : (callFunc 46 args).run Try.prog w = .ok (.enter 46 args) w := by
  simp [go_sem]
theorem sort_any (base g c : Nat) (l : List Tm) (w : World) (ho : RowT w base g c l) (hn : l.length ≤ 1000) :
    Calls Try.prog 52 #[.slice (some ⟨g, 0, none⟩) l.length c, .func (.func 46) #[] #[]] w (fun e w' => e = .returned (.tuple #[]) ∧ RowT w' base g c (orderF l) ∧ w.grownBy w' (some g)) := by
  have h := AnyQ.slices_SortFunc_total sortT 2 Try.isAgg24 Try.sizeOf24 cells2 (fun _ => rfl) (fun x v hv => by simp [cells2] at hv; rcases hv with rfl | rfl <;> rfl) orderZ swoT 46 #[] g 0 c l.toArray w
    eg_order (cmpT g _ w) (holds_row ho) ho.lt.2 (by simp; omega) onlyT
  have h' : Calls Try.prog 52 #[.slice (some ⟨g, 0, none⟩) l.length c, .func (.func 46) #[] #[]] w _ := h
  refine h'.mono ?_
  rintro e w' ⟨rfl, m, os, rfl⟩
  have e1 : (l.toArray.toList.mergeSort fun x y => !ltOf orderZ y x) = orderF l := merge_order l
  rw [e1]
  obtain ⟨a, b⟩ := row_sorted ho (orderF_len l) (fun x hx => ho.2.1 x ((orderF_perm l).mem_iff.1 hx)) m os
  exact ⟨rfl, a, b⟩
theorem sort_none (c : Nat) (A : Option Addr) (w : World) : Calls Try.prog 52 #[.slice A 0 c, .func (.func 46) #[] #[]] w (fun e w' => e = .returned (.tuple #[]) ∧ w' = w) :=
  AnyF.slices_SortFunc_none sortT A c _ w

/-- The values of a slice, gathered and sorted. -/
theorem sortedf_any (A : Option Addr) (n c g : Nat) (l : List Tm) (w : World) (hg : Bk w g 22 #[.slice A n c]) (hx : Tms w A n c l) (hn : n ≤ 1000) :
    Calls Try.prog 44 #[.func (.func 53) #[] #[.pointer (some ⟨g, 0, none⟩)], .func (.func 46) #[] #[]] w (NewT (orderF l) w) := by
  have HC := Lib.hid (collect_any w.heap.size 53 n #[.pointer (some ⟨g, 0, none⟩)] l w eg_values (Nat.le_refl _) (by omega) (fun w1 hb => vals_seq 4 w.heap.size g A n c l w1 (hg.below hb hg.lt) (hx.b.below hb) hb.size))
  have LX := Lib.hid hx.1
  clear hg hx
  go_enter Try.func44, Try.ntmps44
  go_wp2_with fail
  refine HC.out.mono ?_
  rintro e w1 ⟨A1, c1, rfl, o1, b1⟩
  have B1 := Lib.hid b1
  by_cases h0 : 0 < l.length
  · obtain ⟨g1, rfl, hg1⟩ := o1.some_ h0
    have HG := Lib.hid hg1
    have HS := Lib.hid (sort_any w.heap.size g1 c1 l w1 o1 (by have := LX.out; omega))
    clear o1 b1 hg1 h0
    go_wp2_with fail
    refine HS.out.mono ?_
    rintro e w2 ⟨rfl, o2, g2⟩
    have O2 := Lib.hid o2
    have B2 := Lib.hid (B1.out.grown g2 B1.out.size (by intro k hk; injection hk with hk; have := HG.out; omega))
    clear o2 g2
    go_wp2_with fail
    go_ret
    exact ⟨some ⟨g1, 0, none⟩, c1, by rw [orderF_len]; rfl, O2.out, B2.out⟩
  · have hl : l = [] := List.eq_nil_of_length_eq_zero (by omega)
    subst hl
    have O1 := Lib.hid o1
    have HS := Lib.hid (sort_none c1 A1 w1)
    clear o1 b1 h0
    go_wp2_with fail
    refine HS.out.mono ?_
    rintro e w2 ⟨rfl, rfl⟩
    go_wp2_with fail
    go_ret
    exact ⟨A1, c1, rfl, O1.out, B1.out⟩

theorem psorted_any (A : Option Addr) (n c : Nat) (l : List Tm) (w : World) (hx : Tms w A n c l) :
    Calls Try.prog 19 #[.slice A n c] w (ListR (sortedR l) w) := by
  have HX := Lib.hid hx
  have LX := Lib.hid hx.1
  clear hx
  unfold sortedR
  by_cases hok : heapOk l
  · rw [if_pos hok]
    have HC := Lib.hid (fun w h => if_pos hok ▸ pcheck_any A n c l w h)
    have hn : n ≤ 1000 := by have := hok.1; have := LX.out; omega
    clear hok
    go_enter Try.func19, Try.ntmps19
    go_wp2_with fail
    refine (HC.out _ HX.out).mono ?_
    rintro e w1 ⟨rfl, b1⟩
    have B1 := Lib.hid b1
    clear b1
    go_wp2_with fail
    refine (values_any A n c _).mono ?_
    rintro e w2 ⟨rfl, hw2⟩
    have b2 := (Below.refl w1.heap.size w1).alloc (Nat.le_refl _) (.cells #[.slice A n c] 22)
    have k2 := Bk.new w1 22 #[.slice A n c]
    rw [← hw2] at b2 k2
    have B2 := Lib.hid (below3 B1.out b2)
    have HS := Lib.hid (sortedf_any A n c w1.heap.size l w2 k2 (HX.out.below B2.out) hn)
    clear b2 k2 hw2
    go_wp2_with fail
    refine HS.out.mono ?_
    rintro e w3 ⟨A3, c3, rfl, o3, b3⟩
    have O3 := Lib.hid (o3.base B2.out.size)
    have B3 := Lib.hid (below3 B2.out b3)
    clear o3 b3
    go_wp2_with fail
    exact bodyPost_ret (v := .tuple #[.slice A3 (orderF l).length c3, .int .i64 0]) (by simp [results, Try.results19, go_sem]) rfl ⟨A3, c3, rfl, O3.out, B3.out⟩
  · rw [if_neg hok]
    have HC := Lib.hid (fun w h => if_neg hok ▸ pcheck_any A n c l w h)
    clear hok
    go_enter Try.func19, Try.ntmps19
    go_wp2_with fail
    refine (HC.out _ HX.out).mono ?_
    rintro e w1 ⟨rfl, b1⟩
    have B1 := Lib.hid b1
    clear b1
    go_wp2_with fail
    exact bodyPost_ret (v := .tuple #[.slice none 0 0, .int .i64 1]) (by simp [results, Try.results19, go_sem]) rfl ⟨none, 0, rfl, OwnT.nil_ _ _ _, B1.out⟩

end Go.Proofs.Ytjamoafihmcmeaa

/-
  Layer 16: Half, Spill, both sides; Victims, the program.
-/
import Derived.Test.YtljfinfjchkphaaPka
import Derived.Deep.RegionHeld3
import Derived.OrdersHeld
import Derived.RegionTactic
import Derived.BigRegion
namespace Go.Proofs.Ytljfinfjchkphaa
open Go.RowKit

theorem lies3_pk (w : World) (x y z : Array Value) (t u v : TypeId) :
    Bk (((w.alloc (.cells x t)).alloc (.cells y u)).alloc (.cells z v)) w.heap.size t x ∧ Bk (((w.alloc (.cells x t)).alloc (.cells y u)).alloc (.cells z v)) (w.heap.size + 1) u y ∧
    Bk (((w.alloc (.cells x t)).alloc (.cells y u)).alloc (.cells z v)) (w.heap.size + 1 + 1) v z ∧ Below w.heap.size w (((w.alloc (.cells x t)).alloc (.cells y u)).alloc (.cells z v)) := by
  obtain ⟨h1, h2, h3⟩ := lies2 w x y t u
  refine ⟨h1.alloc _, h2.alloc _, ?_, h3.alloc h3.size _⟩
  have := Bk.new ((w.alloc (.cells x t)).alloc (.cells y u)) v z
  simpa using this

/-- What Victims hands back. -/
def VicP (a : List Int × List Int × Int × Int) (w : World) (e : Ending) (w' : World) : Prop := OrdD a.1 a.2.1 a.2.2.1 a.2.2.2 w e w'
theorem vic_none {E : Int} {w w' : World} (hb : Below w.heap.size w w') : VicP ([], [], 0, E) w (.returned (.tuple #[.slice none 0 0, .agg #[.slice none 0 0, .int .i64 0], .int .i64 E])) w' := ord_none hb

set_option maxHeartbeats 1000000 in
theorem half_pk (n : Int) (w : World) (hn : Fit n) :
    Calls Try.prog 15 #[.int .i64 n] w (RetB (.tuple #[.int .i64 (halfPk n).1, .int .i64 (halfPk n).2]) w) := by
  by_cases h : n < 0
  · rw [show halfPk n = (0, 1) from if_pos h]
    replace h : decide (n < 0) = true := decide_eq_true h
    go_enter Try.func15, Try.ntmps15
    go_wp2
    exact bodyPost_ret (results_tmp2 rfl _ _ _) rfl (by exact ⟨rfl, Below.refl _ _⟩)
  · have hq := Int.tdiv_eq_ediv_of_nonneg (a := n) (b := 2) (by omega)
    have hr := Int.tmod_eq_emod_of_nonneg (a := n) (b := 2) (by omega)
    obtain ⟨q, hq2⟩ : ∃ q, n / 2 = q := ⟨_, rfl⟩
    obtain ⟨r, hr2⟩ : ∃ r, n % 2 = r := ⟨_, rfl⟩
    have hw : IntKind.i64.wrap q = q := by rw [IntKind.wrap_i64]; unfold Fit at hn; omega
    have hw2 : IntKind.i64.wrap (n - q) = n - q := by rw [IntKind.wrap_i64]; unfold Fit at hn; omega
    have hw3 : IntKind.i64.wrap (q + r) = n - q := by rw [IntKind.wrap_i64]; unfold Fit at hn; omega
    have HR : Hid (halfPk n = (n - q, 0)) := Lib.hid (by unfold halfPk; rw [if_neg h, hq2])
    rw [HR.out]
    rw [hq2] at hq
    rw [hr2] at hr
    replace h : decide (n < 0) = false := decide_eq_false h
    clear hq2 hr2 hn HR
    go_enter Try.func15, Try.ntmps15
    go_wp2
    exact bodyPost_ret (results_tmp2 rfl _ _ _) rfl (by exact ⟨rfl, Below.refl _ _⟩)

set_option maxHeartbeats 1000000 in
theorem rhalf_pk (n : Int) (w : World) (hn : Fit n) :
    Calls Try.prog 16 #[.int .i64 n] w (RetB (.tuple #[.int .i64 (halfPk n).1, .int .i64 (halfPk n).2]) w) := by
  by_cases h : n < 0
  · rw [show halfPk n = (0, 1) from if_pos h]
    replace h : decide (n < 0) = true := decide_eq_true h
    go_enter Try.func16, Try.ntmps16
    go_wp2
    exact bodyPost_ret (results_tmp2 rfl _ _ _) rfl (by exact ⟨rfl, Below.refl _ _⟩)
  · have hq := Int.tdiv_eq_ediv_of_nonneg (a := n) (b := 2) (by omega)
    have hr := Int.tmod_eq_emod_of_nonneg (a := n) (b := 2) (by omega)
    obtain ⟨q, hq2⟩ : ∃ q, n / 2 = q := ⟨_, rfl⟩
    obtain ⟨r, hr2⟩ : ∃ r, n % 2 = r := ⟨_, rfl⟩
    have hw : IntKind.i64.wrap q = q := by rw [IntKind.wrap_i64]; unfold Fit at hn; omega
    have hw2 : IntKind.i64.wrap (n - q) = n - q := by rw [IntKind.wrap_i64]; unfold Fit at hn; omega
    have hw3 : IntKind.i64.wrap (q + r) = n - q := by rw [IntKind.wrap_i64]; unfold Fit at hn; omega
    have HR : Hid (halfPk n = (n - q, 0)) := Lib.hid (by unfold halfPk; rw [if_neg h, hq2])
    rw [HR.out]
    rw [hq2] at hq
    rw [hr2] at hr
    replace h : decide (n < 0) = false := decide_eq_false h
    clear hq2 hr2 hn HR
    go_enter Try.func16, Try.ntmps16
    go_wp2
    exact bodyPost_ret (results_tmp2 rfl _ _ _) rfl (by exact ⟨rfl, Below.refl _ _⟩)

set_option maxHeartbeats 1000000 in
theorem spill_pk (n : Int) (w : World) (hn : Fit n) :
    Calls Try.prog 17 #[.int .i64 n] w (RetB (.tuple #[.int .i64 (spillPk n).1, .int .i64 (spillPk n).2]) w) := by
  by_cases h : n < 0
  · rw [show spillPk n = (0, 1) from if_pos h]
    replace h : decide (n < 0) = true := decide_eq_true h
    go_enter Try.func17, Try.ntmps17
    go_wp2
    exact bodyPost_ret (results_tmp2 rfl _ _ _) rfl (by exact ⟨rfl, Below.refl _ _⟩)
  · have hq := Int.tdiv_eq_ediv_of_nonneg (a := n) (b := 2) (by omega)
    have hr := Int.tmod_eq_emod_of_nonneg (a := n) (b := 2) (by omega)
    obtain ⟨q, hq2⟩ : ∃ q, n / 2 = q := ⟨_, rfl⟩
    obtain ⟨r, hr2⟩ : ∃ r, n % 2 = r := ⟨_, rfl⟩
    have hw : IntKind.i64.wrap q = q := by rw [IntKind.wrap_i64]; unfold Fit at hn; omega
    have hw2 : IntKind.i64.wrap (n - q) = n - q := by rw [IntKind.wrap_i64]; unfold Fit at hn; omega
    have hw3 : IntKind.i64.wrap (q + r) = n - q := by rw [IntKind.wrap_i64]; unfold Fit at hn; omega
    have HR : Hid (spillPk n = (q, 0)) := Lib.hid (by unfold spillPk; rw [if_neg h, hq2])
    rw [HR.out]
    rw [hq2] at hq
    rw [hr2] at hr
    replace h : decide (n < 0) = false := decide_eq_false h
    clear hq2 hr2 hn HR
    go_enter Try.func17, Try.ntmps17
    go_wp2
    exact bodyPost_ret (results_tmp2 rfl _ _ _) rfl (by exact ⟨rfl, Below.refl _ _⟩)

set_option maxHeartbeats 1000000 in
theorem rspill_pk (n : Int) (w : World) (hn : Fit n) :
    Calls Try.prog 18 #[.int .i64 n] w (RetB (.tuple #[.int .i64 (spillPk n).1, .int .i64 (spillPk n).2]) w) := by
  by_cases h : n < 0
  · rw [show spillPk n = (0, 1) from if_pos h]
    replace h : decide (n < 0) = true := decide_eq_true h
    go_enter Try.func18, Try.ntmps18
    go_wp2
    exact bodyPost_ret (results_tmp2 rfl _ _ _) rfl (by exact ⟨rfl, Below.refl _ _⟩)
  · have hq := Int.tdiv_eq_ediv_of_nonneg (a := n) (b := 2) (by omega)
    have hr := Int.tmod_eq_emod_of_nonneg (a := n) (b := 2) (by omega)
    obtain ⟨q, hq2⟩ : ∃ q, n / 2 = q := ⟨_, rfl⟩
    obtain ⟨r, hr2⟩ : ∃ r, n % 2 = r := ⟨_, rfl⟩
    have hw : IntKind.i64.wrap q = q := by rw [IntKind.wrap_i64]; unfold Fit at hn; omega
    have hw2 : IntKind.i64.wrap (n - q) = n - q := by rw [IntKind.wrap_i64]; unfold Fit at hn; omega
    have hw3 : IntKind.i64.wrap (q + r) = n - q := by rw [IntKind.wrap_i64]; unfold Fit at hn; omega
    have HR : Hid (spillPk n = (q, 0)) := Lib.hid (by unfold spillPk; rw [if_neg h, hq2])
    rw [HR.out]
    rw [hq2] at hq
    rw [hr2] at hr
    replace h : decide (n < 0) = false := decide_eq_false h
    clear hq2 hr2 hn HR
    go_enter Try.func18, Try.ntmps18
    go_wp2
    exact bodyPost_ret (results_tmp2 rfl _ _ _) rfl (by exact ⟨rfl, Below.refl _ _⟩)

theorem OwnO.grown_pk {E : TypeId} {w w' : World} {base : Nat} {B : Option Addr} {d : Nat} {zs : List Int} {row : Option Nat} (h : OwnO E w base B d zs) (hg : w.grownBy w' row) (hne : (Value.slice B zs.length d).ownBlock = none ∨ (Value.slice B zs.length d).ownBlock ≠ row) : OwnO E w' base B d zs :=
  ⟨h.1, h.2.1, h.2.2.kept hg hne⟩
theorem mem_upto_pk {n : Nat} {x : Int} (h0 : 0 ≤ x) (h1 : x < n) : x ∈ upto n := by
  unfold upto
  rw [List.mem_map]
  exact ⟨x.toNat, List.mem_range.2 (by omega), by omega⟩

set_option maxHeartbeats 1000000 in
theorem vic_any (A : Option Addr) (N c : Nat) (p n me : Int) (bs : List Int) (w : World) (ho : Octs w A N bs) :
    Calls Try.prog 9 #[.agg #[.slice A N c, .int .i64 p], .int .i64 n, .int .i64 me] w (VicP (vicPk bs N p n me) w) := by
  by_cases g0 : n < 1
  · rw [show vicPk bs N p n me = ([], [], 0, 1) from vicPk_no (by unfold okVPk; omega)]
    replace g0 : decide (n < 1) = true := decide_eq_true g0
    obtain ⟨k3, k5, k7, b0⟩ := lies3_pk w #[.slice A N c, .int .i64 p] #[.int .i64 me] #[.slice none 0 0, .int .i64 0] 24 3 24
    have q0 := k7.c0
    have q1 := k7.c1
    have f0 := k7.frozen 0
    have f1 := k7.frozen 1
    have HB := Lib.hid b0
    clear k3 k5 k7 b0 ho
    go_enter Try.func9, Try.ntmps9
    go_wp2
    exact bodyPost_ret (v := .tuple #[.slice none 0 0, .agg #[.slice none 0 0, .int .i64 0], .int .i64 1]) (by simp [results, Try.results9, go_sem, *]) rfl (vic_none HB.out)
  · by_cases g1 : 64 < n
    · rw [show vicPk bs N p n me = ([], [], 0, 1) from vicPk_no (by unfold okVPk; omega)]
      replace g0 : decide (n < 1) = false := decide_eq_false g0
      replace g1 : decide (64 < n) = true := decide_eq_true g1
      obtain ⟨k3, k5, k7, b0⟩ := lies3_pk w #[.slice A N c, .int .i64 p] #[.int .i64 me] #[.slice none 0 0, .int .i64 0] 24 3 24
      have q0 := k7.c0
      have q1 := k7.c1
      have f0 := k7.frozen 0
      have f1 := k7.frozen 1
      have HB := Lib.hid b0
      clear k3 k5 k7 b0 ho
      go_enter Try.func9, Try.ntmps9
      go_wp2
      exact bodyPost_ret (v := .tuple #[.slice none 0 0, .agg #[.slice none 0 0, .int .i64 0], .int .i64 1]) (by simp [results, Try.results9, go_sem, *]) rfl (vic_none HB.out)
    · by_cases g2 : me < 0
      · rw [show vicPk bs N p n me = ([], [], 0, 1) from vicPk_no (by unfold okVPk; omega)]
        replace g0 : decide (n < 1) = false := decide_eq_false g0
        replace g1 : decide (64 < n) = false := decide_eq_false g1
        replace g2 : decide (me < 0) = true := decide_eq_true g2
        obtain ⟨k3, k5, k7, b0⟩ := lies3_pk w #[.slice A N c, .int .i64 p] #[.int .i64 me] #[.slice none 0 0, .int .i64 0] 24 3 24
        have q5 := k5.one
        have q0 := k7.c0
        have q1 := k7.c1
        have f0 := k7.frozen 0
        have f1 := k7.frozen 1
        have HB := Lib.hid b0
        clear k3 k5 k7 b0 ho
        go_enter Try.func9, Try.ntmps9
        go_wp2
        exact bodyPost_ret (v := .tuple #[.slice none 0 0, .agg #[.slice none 0 0, .int .i64 0], .int .i64 1]) (by simp [results, Try.results9, go_sem, *]) rfl (vic_none HB.out)
      · by_cases g3 : n ≤ me
        · rw [show vicPk bs N p n me = ([], [], 0, 1) from vicPk_no (by unfold okVPk; omega)]
          replace g0 : decide (n < 1) = false := decide_eq_false g0
          replace g1 : decide (64 < n) = false := decide_eq_false g1
          replace g2 : decide (me < 0) = false := decide_eq_false g2
          replace g3 : decide (n ≤ me) = true := decide_eq_true g3
          obtain ⟨k3, k5, k7, b0⟩ := lies3_pk w #[.slice A N c, .int .i64 p] #[.int .i64 me] #[.slice none 0 0, .int .i64 0] 24 3 24
          have q5 := k5.one
          have q0 := k7.c0
          have q1 := k7.c1
          have f0 := k7.frozen 0
          have f1 := k7.frozen 1
          have HB := Lib.hid b0
          clear k3 k5 k7 b0 ho
          go_enter Try.func9, Try.ntmps9
          go_wp2
          exact bodyPost_ret (v := .tuple #[.slice none 0 0, .agg #[.slice none 0 0, .int .i64 0], .int .i64 1]) (by simp [results, Try.results9, go_sem, *]) rfl (vic_none HB.out)
        · by_cases hp : 0 ≤ p ∧ p ≤ N
          · have hlo : (1 ≤ n ∧ n ≤ 64) ∧ 0 ≤ me ∧ me < n := by omega
            replace g0 : decide (n < 1) = false := decide_eq_false g0
            replace g1 : decide (64 < n) = false := decide_eq_false g1
            replace g2 : decide (me < 0) = false := decide_eq_false g2
            replace g3 : decide (n ≤ me) = false := decide_eq_false g3
            obtain ⟨p, rfl⟩ := Int.eq_ofNat_of_zero_le hp.1
            obtain ⟨n, rfl⟩ : ∃ k : Nat, n = (k : Int) := ⟨n.toNat, by omega⟩
            have hok : okVPk N p n me := ⟨hp, hlo⟩
            have hpN : p ≤ N := by omega
            have hn64 : n ≤ 64 := by omega
            have hn1 : 1 ≤ n := by omega
            have hme : me ∈ orderOf bs p n := (order_perm bs p n).mem_iff.2 (mem_upto_pk (by omega) (by omega))
            have HM := Lib.hid hme
            have HR := Lib.hid (vicPk_ok (bs := bs) hok)
            rw [HR.out]
            simp only [Int.toNat_natCast]
            obtain ⟨l, hl⟩ : ∃ l, orderOf bs p n = l := ⟨_, rfl⟩
            have hln := order_len bs p n
            rw [hl] at HM hln ⊢
            have HL := Lib.hid hl
            obtain ⟨m, hm⟩ : ∃ m, min (p + 2 * (n - 1)) N = m := ⟨_, rfl⟩
            rw [hm]
            have HMM := Lib.hid hm
            have HLN := Lib.hid hln
            obtain ⟨k3, k5, k7, b0⟩ := lies3_pk w #[.slice A N c, .int .i64 p] #[.int .i64 me] #[.slice none 0 0, .int .i64 0] 24 3 24
            have HO := Lib.hid ho
            clear ho
            have q5 := k5.one
            have q0 := k3.c0
            have q1 := k3.c1
            have K5 := Lib.hid k5
            have K7 := Lib.hid k7
            have B0 := Lib.hid b0
            clear k3 k5 k7 b0
            clear hp hok hme HR hl hm hln hlo
            go_enter Try.func9, Try.ntmps9
            go_wp2_with fail
            refine (order_ok A N c p n bs _ (HO.out.below B0.out) hpN (by omega)).mono ?_
            rw [HL.out, HMM.out]
            rintro e w1 ⟨A2, c2, B2, d2, he, o2, d2o, b1⟩
            rw [HLN.out] at he
            subst he
            obtain ⟨ga, rfl, hga, hgl, -, -⟩ := o2.form (by rw [HLN.out]; omega)
            have HZ := Lib.hid K7.out.lt
            have B0S := Lib.hid B0.out.size
            have hga2 : w.heap.size + 1 + 1 < ga := Nat.lt_of_lt_of_le HZ.out hga
            have k5 := K5.out.below b1 K5.out.lt
            have k7 := K7.out.below b1 K7.out.lt
            have b2 := below3 B0.out b1
            have kt : Bk (w1.alloc (.cells #[.slice A2 bs.length c2, .int .i64 (m : Int)] 24)).drew w1.heap.size 24 #[.slice A2 bs.length c2, .int .i64 (m : Int)] := Bk.new w1 _ _
            have ba : Below w1.heap.size w1 (w1.alloc (.cells #[.slice A2 bs.length c2, .int .i64 (m : Int)] 24)).drew := ((Below.refl w1.heap.size w1).alloc (Nat.le_refl _) _).drew
            have h0 : (w1.alloc (.cells #[.slice A2 bs.length c2, .int .i64 (m : Int)] 24)).drew.cell? ⟨w1.heap.size, 0, none⟩ = some (.slice A2 bs.length c2) ∧ (w1.alloc (.cells #[.slice A2 bs.length c2, .int .i64 (m : Int)] 24)).drew.cell? ⟨w1.heap.size, 1, none⟩ = some (.int .i64 (m : Int)) := ⟨kt.c0, kt.c1⟩
            have hk7 := k7.lt
            replace K5 := Lib.hid (k5.below ba k5.lt)
            replace K7 := Lib.hid (k7.below ba k7.lt)
            have B2 := Lib.hid (below3 b2 ba)
            have O2 := Lib.hid (o2.below ba)
            have D2 := Lib.hid (d2o.below ba)
            clear q0 q1 q5 k5 k7 b2 ba o2 d2o b1 B0
            go_upto_region 6 with fail
            refine wp_region_held (S := fun U => U.cell? ⟨w1.heap.size, 0, none⟩ = some (.slice A2 bs.length c2) ∧ U.cell? ⟨w1.heap.size, 1, none⟩ = some (.int .i64 (m : Int))) (by kernel_rfl) ?_
            change wpAnyH _ _ _ _ _ _ _ _ (World.drew _)
            generalize (w1.alloc (.cells #[.slice A2 bs.length c2, .int .i64 (m : Int)] 24)).drew = w0 at h0 kt K5 K7 B2 O2 D2 ⊢
            refine wpAnyH_take (i := 0) (v := .slice (some ⟨ga, 0, none⟩) n d2) rfl (by kernel_rfl) (by kernel_rfl) (by kernel_rfl) (fun _ _ _ h => h) (.inl ⟨by rfl, fun U hU => by obtain ⟨u0, u1⟩ := hU; go_simp⟩) h0 ?_
            refine wpAnyH_take (i := 1) (v := .func (.func 23) #[] #[.pointer (some ⟨w.heap.size + 1, 0, none⟩)]) rfl (by kernel_rfl) (by kernel_rfl) (by kernel_rfl) (fun _ _ _ h => h) (.inl ⟨by rfl, fun U hU => by obtain ⟨u0, u1⟩ := hU; go_simp⟩) h0 ?_
            refine wpAnyH_take (i := 3) (v := .agg #[.slice A2 bs.length c2, .int .i64 (m : Int)]) rfl (by kernel_rfl) (by kernel_rfl) (by kernel_rfl) (fun _ _ _ h => h) (.inl ⟨by rfl, fun U hU => by obtain ⟨u0, u1⟩ := hU; go_simp⟩) h0 ?_
            refine wpAnyH_all (rs := [2]) (by kernel_rfl) (by simp) ?_
            intro i hi
            simp only [List.mem_cons, List.not_mem_nil, or_false] at hi
            subst hi
            unfold wpOp
            go_simp
            left
            refine (del_pk ga n d2 (w.heap.size + 1) _ l me _ O2.out HLN.out K5.out (by omega) HM.out).mono ?_
            rintro e w2 ⟨rfl, o3, hg⟩
            have h1 := And.intro (hg.cell h0.1 (by simp; omega)) (hg.cell h0.2 (by simp; omega))
            have k7 := K7.out.grown hg (by simp; omega)
            have d3 := D2.out.grown_pk hg (rows_ne D2.out O2.out (by decide) (n := bs.length) (d := c2) (n' := n) (d' := d2))
            have b3 := B2.out.grown hg B2.out.size (by intro k hk; injection hk; omega)
            have k3 := kt.grown hg (by simp; omega)
            refine ⟨h1, ?_⟩
            clear hg h0 K5 O2 D2 kt
            refine wpAnyH_take (i := 4) (v := .slice (some ⟨ga, 0, none⟩) (butPk l me).length d2) rfl (by kernel_rfl) (by kernel_rfl) (by kernel_rfl) (fun _ _ _ h => h) (.inl ⟨by rfl, fun U hU => by obtain ⟨u0, u1⟩ := hU; go_simp⟩) h1 ?_
            have k4 := ((k3.far (p := ⟨w.heap.size + 1 + 1, 0, none⟩) (by simp; omega) (.slice A2 bs.length c2)).far (p := ⟨w.heap.size + 1 + 1, 1, none⟩) (by simp; omega) (.int .i64 (m : Int)))
            have h2 := And.intro k4.c0 k4.c1
            have c0 := k7.c0
            have c1 := k7.c1
            have f0 := k7.frozen 0
            have f1 := k7.frozen 1
            have HB := Lib.hid ((b3.setCell (p := ⟨w.heap.size + 1 + 1, 0, none⟩) (by simp <;> omega) (.slice A2 bs.length c2)).setCell (p := ⟨w.heap.size + 1 + 1, 1, none⟩) (by simp <;> omega) (.int .i64 (m : Int)))
            have HD := Lib.hid (((d3.far (p := ⟨w.heap.size + 1 + 1, 0, none⟩) HZ.out (.slice A2 bs.length c2)).far (p := ⟨w.heap.size + 1 + 1, 1, none⟩) HZ.out (.int .i64 (m : Int))).base B0S.out)
            have HO3 := Lib.hid (((o3.far (p := ⟨w.heap.size + 1 + 1, 0, none⟩) HZ.out (.slice A2 bs.length c2)).far (p := ⟨w.heap.size + 1 + 1, 1, none⟩) HZ.out (.int .i64 (m : Int))).base B0S.out)
            clear k3 k4 b3 d3 o3 k7
            refine wpAnyH_all (rs := [5]) (by kernel_rfl) (by simp) ?_
            intro i hi
            simp only [List.mem_cons, List.not_mem_nil, or_false] at hi
            subst hi
            unfold wpOp
            go_simp
            left
            refine wpAnyH_take (i := 6) (v := .int .i64 0) rfl (by kernel_rfl) (by kernel_rfl) (by kernel_rfl) (fun _ _ _ h => h) (.inl ⟨by rfl, fun U hU => by obtain ⟨u0, u1⟩ := hU; go_simp⟩) h2 ?_
            refine wpAnyH_done (by kernel_rfl) ?_ _
            go_wp2
            exact bodyPost_ret (v := .tuple #[.slice (some ⟨ga, 0, none⟩) (butPk l me).length d2, .agg #[.slice A2 bs.length c2, .int .i64 (m : Int)], .int .i64 0]) (by simp [results, Try.results9, go_sem, *]) rfl ⟨A2, c2, _, d2, rfl, HO3.out, HD.out, HB.out⟩
          · rw [show vicPk bs N p n me = ([], [], 0, 1) from vicPk_no (by unfold okVPk; omega)]
            have hnn : ¬ (0 ≤ p ∧ p ≤ N ∧ 0 ≤ n ∧ n ≤ 256) := by omega
            have hN := ho.2.1
            replace g0 : decide (n < 1) = false := decide_eq_false g0
            replace g1 : decide (64 < n) = false := decide_eq_false g1
            replace g2 : decide (me < 0) = false := decide_eq_false g2
            replace g3 : decide (n ≤ me) = false := decide_eq_false g3
            obtain ⟨k3, k5, k7, b0⟩ := lies3_pk w #[.slice A N c, .int .i64 p] #[.int .i64 me] #[.slice none 0 0, .int .i64 0] 24 3 24
            have HO := Lib.hid ho
            clear ho
            have q5 := k5.one
            have q0 := k3.c0
            have q1 := k3.c1
            have K5 := Lib.hid k5
            have K7 := Lib.hid k7
            have B0 := Lib.hid b0
            clear k3 k5 k7 b0
            clear hp
            go_enter Try.func9, Try.ntmps9
            go_wp2_with fail
            refine (order_no A N c p n _ hN hnn).mono ?_
            rintro e w1 ⟨A2, c2, B2, d2, rfl, -, -, b1⟩
            obtain ⟨kn, bn⟩ : Bk (w1.alloc (.cells #[.slice A2 0 c2, .int .i64 0] 24)) (w.heap.size + 1 + 1) 24 #[.slice none 0 0, .int .i64 0] ∧ Below w.heap.size w (w1.alloc (.cells #[.slice A2 0 c2, .int .i64 0] 24)) := ⟨(K7.out.below b1 K7.out.lt).alloc _, (below3 B0.out b1).alloc (Nat.le_trans B0.out.size b1.size) _⟩
            obtain ⟨W, hW⟩ : ∃ W, w1.alloc (.cells #[.slice A2 0 c2, .int .i64 0] 24) = W := ⟨_, rfl⟩
            rw [hW] at kn bn
            have HW := Lib.hid hW
            clear hW q0 q1 q5 K5 K7 B0 b1
            go_upto_region 4 with fail
            rw [HW.out]
            clear HW
            have q0 := kn.c0
            have q1 := kn.c1
            have f0 := kn.frozen 0
            have f1 := kn.frozen 1
            have HB := Lib.hid ((bn.setCell (p := ⟨w.heap.size + 1 + 1, 0, none⟩) (by simp <;> omega) (.slice none 0 0)).setCell (p := ⟨w.heap.size + 1 + 1, 1, none⟩) (by simp <;> omega) (.int .i64 0))
            clear kn bn
            go_wp2
            exact bodyPost_ret (v := .tuple #[.slice none 0 0, .agg #[.slice none 0 0, .int .i64 0], .int .i64 1]) (by simp [results, Try.results9, go_sem, *]) rfl (vic_none HB.out)

end Go.Proofs.Ytljfinfjchkphaa

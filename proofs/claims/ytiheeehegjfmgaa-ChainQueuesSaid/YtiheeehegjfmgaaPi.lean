/-
  The program's without: chains without a node of a list.
-/
import Derived.Test.YtiheeehegjfmgaaPk
namespace Go.Proofs.Ytiheeehegjfmgaa
open Go.RowKit Go.Shelf

def cutN (next : List Int) (ah : Int) (x : Nat) : List Int := (if ah = -1 then next else next.set ah.toNat (nth next x)).set x (-2)
def cutH (next head : List Int) (i : Nat) (ah : Int) (x : Nat) : List Int := if ah = -1 then head.set i (nth next x) else head
def cutT (tail : List Int) (i : Nat) (ah : Int) (x : Nat) : List Int := if nth tail i = (x : Int) then tail.set i ah else tail
theorem PuS.doneK {w W : World} {cs : Array Value} {g : Nat} {A5 B5 D5 : Option Addr} {a5 b5 d5 n m : Nat} {N H T : List Int} (h : PuS w W cs g A5 a5 B5 b5 D5 d5 n m N H T) :
    NewK N H T w (.returned (.agg #[.slice A5 n a5, .slice B5 m b5, .slice D5 m d5])) (((W.setCell ⟨w.heap.size + 1, 0, none⟩ (.slice A5 n a5)).setCell ⟨w.heap.size + 1, 1, none⟩ (.slice B5 m b5)).setCell ⟨w.heap.size + 1, 2, none⟩ (.slice D5 m d5)) := by
  refine ⟨A5, a5, B5, b5, D5, d5, by rw [h.hN, h.hH, h.hT], (((h.k.far (g := w.heap.size + 1) (j := 0) (by omega) (.slice A5 n a5)).far (g := w.heap.size + 1) (j := 1) (by omega) (.slice B5 m b5)).far (g := w.heap.size + 1) (j := 2) (by omega) (.slice D5 m d5)).base_ (by omega), ?_⟩
  exact ((h.below.setCell (p := ⟨w.heap.size + 1, 0, none⟩) (by simp) (.slice A5 n a5)).setCell (p := ⟨w.heap.size + 1, 1, none⟩) (by simp) (.slice B5 m b5)).setCell (p := ⟨w.heap.size + 1, 2, none⟩) (by simp) (.slice D5 m d5)

set_option maxHeartbeats 8000000 in
theorem without_any (A B D : Option Addr) (n a m b k d : Nat) (next head tail : List Int) (i p : Nat) (x : Nat) (qs : List (List Int)) (r : Rep next head tail qs) (hi : i < qs.length) (hp' : p < (qth qs i).length) (hx : nth (qth qs i) p = (x : Int)) (w : World) (hp : Chn w A n B m D k next head tail) :
    Calls Try.prog 38 #[.agg #[.slice A n a, .slice B m b, .slice D k d], .int .i64 i, .int .i64 x] w (NewK (cutN next (aheadO (qth qs i) p) x) (cutH next head i (aheadO (qth qs i) p) x) (cutT tail i (aheadO (qth qs i) p) x) w) := by
  obtain rfl : m = k := by have := hp.h.1; have := hp.t.1; have := r.lh; have := r.lt; omega
  have hb2 := ((Below.refl w.heap.size w).alloc (Nat.le_refl _) (.cells #[.slice A n a, .slice B m b, .slice D m d] 24)).alloc (by simp) (.cells #[.slice none 0 0, .slice none 0 0, .slice none 0 0] 24)
  have K2 := (Bk.new w 24 #[.slice A n a, .slice B m b, .slice D m d]).alloc (.cells #[.slice none 0 0, .slice none 0 0, .slice none 0 0] 24)
  have Z2 := Bk.new (w.alloc (.cells #[.slice A n a, .slice B m b, .slice D m d] 24)) 24 #[.slice none 0 0, .slice none 0 0, .slice none 0 0]
  rw [size_alloc] at Z2
  have HP2 := Lib.hid (hp.below hb2)
  have HB2 := Lib.hid hb2
  have c0 := K2.e0
  have c1 := K2.e1
  have c2 := K2.e2
  have HP0 := Lib.hid hp
  have HLX := Lib.hid hp.x.1
  have HLH := Lib.hid hp.h.1
  have HLT := Lib.hid hp.t.1
  clear hp hb2
  have him : i < m := by have := HLH.out; have := r.lh; omega
  have hn1 : n ≤ 1024 := by rw [← HLX.out]; exact r.few
  have hm1 : m ≤ 256 := by have := HLH.out; have := r.lh; have := r.l2; omega
  have hrx := r.rng i p hi hp'
  rw [hx, HLX.out] at hrx
  have hxn : x < n := by omega
  have HHX := Lib.hid hx
  clear hx hrx
  go_enter Try.func38, Try.ntmps38
  go_upto_region 3 with first
    | (go_at_call 32; refine (clone_any A B D n a m b m d next head tail ((w.alloc (.cells #[.slice A n a, .slice B m b, .slice D m d] 24)).alloc (.cells #[.slice none 0 0, .slice none 0 0, .slice none 0 0] 24)) HP2.out).mono ?_; rintro e w5 ⟨A5, a5, B5, b5, D5, d5, rfl, hk5, hb5⟩; have HB5 := Lib.hid (below3 HB2.out hb5); have K5 := K2.below hb5 K2.lt; have l0 := K5.e0; have l1 := K5.e1; have l2 := K5.e2; have Z5 := Z2.below hb5 Z2.lt; have HP5 := Lib.hid (HP2.out.below hb5); have HS5 := Lib.hid hb5.size; have HK5 := Lib.hid hk5; have S6 := Lib.hid (show PuS w (w5.alloc (.cells #[.slice A5 n a5, .slice B5 m b5, .slice D5 m d5] 24)) #[.slice A n a, .slice B m b, .slice D m d] w5.heap.size A5 a5 B5 b5 D5 d5 n m next head tail from ⟨K5.alloc _, Z5.alloc _, Bk.new _ _ _, HB5.out.alloc HB5.out.size _, (hk5.base_ (by rw [size_alloc, size_alloc]; omega)).below ((Below.refl _ _).alloc (Nat.le_refl _) _), (by have := HS5.out; simp at *; omega), HLX.out, HLH.out, HLT.out⟩); obtain ⟨gA, rfl, hgA, -, -, -⟩ := hk5.c.x.form (by rw [HLX.out]; omega); obtain ⟨gB, rfl, hgB, -, -, -⟩ := hk5.c.h.form (by rw [HLH.out]; omega); obtain ⟨gD, rfl, hgD, -, -, -⟩ := hk5.c.t.form (by rw [HLT.out]; omega); rw [HLX.out, HLH.out, HLT.out]; have m0 := S6.out.c.e0; have m1 := S6.out.c.e1; have m2 := S6.out.c.e2; clear hb5 hk5)
    | (go_at_call 46; have hbe := before_any A B D n a m b m d next head tail qs i p _ (HP0.out.below S6.out.below) r hi hp'; rw [HHX.out] at hbe; refine hbe.mono ?_; clear hbe; rintro e w7 ⟨rfl, hb7⟩; have S7 := Lib.hid (S6.out.call hb7); clear hb7)
  clear HP2 HB2 K2 Z2 c0 c1 c2 m0 m1 m2 K5 Z5 l0 l1 l2 HB5 HP5 HS5 HK5
  generalize w5.heap.size = g at S7 ⊢
  obtain ⟨bA, oA, rfl, hbA, hcA⟩ := HP0.out.x.2.2.2 (by omega)
  obtain ⟨bD, oD, rfl, hbD, hcD⟩ := HP0.out.t.2.2.2 (by omega)
  obtain ⟨y, hy⟩ : ∃ z, nth next x = z := ⟨_, rfl⟩
  obtain ⟨tl, htl⟩ : ∃ z, nth tail i = z := ⟨_, rfl⟩
  obtain ⟨ah, hah⟩ : ∃ z, aheadO (qth qs i) p = z := ⟨_, rfl⟩
  have cy := hcA x hxn
  have ct := hcD i him
  rw [hy] at cy
  rw [htl] at ct
  have HCY : Hid (∀ U : World, Below w.heap.size w U → U.cell? ⟨bA, oA + x, none⟩ = some (.int .i64 y)) := Lib.hid (fun U hU => (hU.cell (p := ⟨bA, oA + x, none⟩) hbA).trans cy)
  have HCT : Hid (∀ U : World, Below w.heap.size w U → U.cell? ⟨bD, oD + i, none⟩ = some (.int .i64 tl)) := Lib.hid (fun U hU => (hU.cell (p := ⟨bD, oD + i, none⟩) hbD).trans ct)
  have hyf : Fit y := by
    have h1 := r.nx i p hi hp'
    rw [HHX.out, Int.toNat_natCast, hy] at h1
    rw [h1]
    exact rep_hdK r hi (p + 1)
  have har : ah = -1 ∨ (0 ≤ ah ∧ ah < (n : Int)) := by
    rw [← hah]
    unfold aheadO
    split
    · exact .inl rfl
    · have h2 := r.rng i (p - 1) hi (by omega)
      rw [HLX.out] at h2
      exact .inr h2
  have haf : Fit ah := by rcases har with h | h <;> (unfold Fit; omega)
  have HY := Lib.hid hy
  have HTL := Lib.hid htl
  have HHI := Lib.hid hi
  have HAH := Lib.hid hah
  rw [hah]
  clear hbA hcA hbD hcD hy htl hah cy ct hgA hgB hgD S6
  have S7d := S7.out.drew
  have hgB6 : gB < w7.drew.heap.size := (S7d.k.c.h.que.block (n := 0) (d := 0) gB rfl).2
  have hgA6 : gA < w7.drew.heap.size := (S7d.k.c.x.que.block (n := 0) (d := 0) gA rfl).2
  by_cases ham : ah = -1
  · subst ham
    clear har
    refine wp_region_held (S := fun U => ∃ N' H', PuS w U #[.slice (some ⟨bA, oA, none⟩) n a, .slice B m b, .slice (some ⟨bD, oD, none⟩) m d] g (some ⟨gA, 0, none⟩) a5 (some ⟨gB, 0, none⟩) b5 (some ⟨gD, 0, none⟩) d5 n m N' H' tail) (by kernel_rfl) ?_
    change wpAnyH _ _ _ _ _ _ _ _ (World.drew _)
    have hS0 : (fun U => ∃ N' H', PuS w U #[.slice (some ⟨bA, oA, none⟩) n a, .slice B m b, .slice (some ⟨bD, oD, none⟩) m d] g (some ⟨gA, 0, none⟩) a5 (some ⟨gB, 0, none⟩) b5 (some ⟨gD, 0, none⟩) d5 n m N' H' tail) w7.drew := ⟨_, _, S7d⟩
    refine wpAnyH_take (i := 0) (v := .agg #[.slice (some ⟨gA, 0, none⟩) n a5, .slice (some ⟨gB, 0, none⟩) m b5, .slice (some ⟨gD, 0, none⟩) m d5]) rfl (by kernel_rfl) (by kernel_rfl) (by kernel_rfl) (fun _ _ _ h => h) (.inl ⟨by rfl, fun U hU => by obtain ⟨N', H', h1⟩ := hU; have h3 := h1.p.e0; have h4 := h1.p.e1; have h5 := h1.p.e2; go_simp⟩) hS0 ?_
    refine wpAnyH_take (i := 1) (v := .int .i64 i) rfl (by kernel_rfl) (by kernel_rfl) (by kernel_rfl) (fun _ _ _ h => h) (.inl ⟨by rfl, fun U hU => by go_simp⟩) hS0 ?_
    refine wpAnyH_take (i := 2) (v := .int .i64 (-1)) rfl (by kernel_rfl) (by kernel_rfl) (by kernel_rfl) (fun _ _ _ h => h) (.inl ⟨by rfl, fun U hU => by go_simp⟩) hS0 ?_
    refine wpAnyH_take (i := 3) (v := .pointer (some ⟨w.heap.size, 0, none⟩)) rfl (by kernel_rfl) (by kernel_rfl) (by kernel_rfl) (fun _ _ _ h => h) (.inl ⟨by rfl, fun U hU => by go_simp⟩) hS0 ?_
    refine wpAnyH_take (i := 4) (v := .slice (some ⟨bA, oA, none⟩) n a) rfl (by kernel_rfl) (by kernel_rfl) (by kernel_rfl) (fun _ _ _ h => h) (.inl ⟨by rfl, fun U hU => by obtain ⟨N', H', h1⟩ := hU; have h3 := h1.c.e0; go_simp⟩) hS0 ?_
    refine wpAnyH_take (i := 5) (v := .int .i64 x) rfl (by kernel_rfl) (by kernel_rfl) (by kernel_rfl) (fun _ _ _ h => h) (.inl ⟨by rfl, fun U hU => by go_simp⟩) hS0 ?_
    refine wpAnyH_take (i := 6) (v := .pointer (some ⟨bA, oA + x, none⟩)) rfl (by kernel_rfl) (by kernel_rfl) (by kernel_rfl) (fun _ _ _ h => h) (.inl ⟨by rfl, fun U hU => by go_simp⟩) hS0 ?_
    refine wpAnyH_take (i := 7) (v := .int .i64 y) rfl (by kernel_rfl) (by kernel_rfl) (by kernel_rfl) (fun _ _ _ h => h) (.inl ⟨by rfl, fun U hU => by obtain ⟨N', H', h1⟩ := hU; have h3 := HCY.out _ h1.below; go_simp⟩) hS0 ?_
    refine wpAnyH_all (rs := [8]) (by kernel_rfl) (by simp) ?_
    intro i' hi'
    simp only [List.mem_cons, List.not_mem_nil, or_false] at hi'
    subst hi'
    unfold wpOp
    go_simp
    left
    refine (link_head _ _ _ n a5 m b5 m d5 gB i y w7.drew _ rfl him hgB6 (S7d.cellH him).1 (S7d.cellH him).2).mono ?_
    rintro e w8 ⟨rfl, rfl⟩
    have S8 := (S7d.setH (j := i) hyf).alloc (.cells #[.slice (some ⟨gA, 0, none⟩) n a5, .slice (some ⟨gB, 0, none⟩) m b5, .slice (some ⟨gD, 0, none⟩) m d5] 24)
    refine ⟨⟨_, _, S8⟩, by kernel_rfl, ?_⟩
    clear hS0 S7d hgB6 hgA6
    generalize hW8 : World.alloc _ _ = W8 at S8 ⊢
    clear hW8
    have e1 : cutN next (-1) x = next.set x (-2) := by unfold cutN; rfl
    have e2 : cutH next head i (-1) x = (head.set i y) := by unfold cutH; rw [if_pos rfl, HY.out]
    have E1 := Lib.hid e1
    have E2 := Lib.hid e2
    clear e1 e2
    have c2 := S8.c.e2
    have ct := HCT.out _ S8.below
    have cN := S8.cellN hxn
    have cN1 := cN.1
    have cN2 := cN.2
    have cT := S8.cellT him
    have cT1 := cT.1
    have cT2 := cT.2
    have p0 := S8.p.e0
    have p1 := S8.p.e1
    have p2 := S8.p.e2
    have z0 := S8.z.e0
    have z1 := S8.z.e1
    have z2 := S8.z.e2
    have f0 := S8.z.frozen 0
    have f1 := S8.z.frozen 1
    have f2 := S8.z.frozen 2
    have hg1 := row_ne S8.k.c.x S8.p
    have hg2 := row_ne S8.k.c.t S8.p
    have hg3 : ¬ gA = gD := fun e => S8.k.ad gA rfl (by rw [e]; rfl)
    have hbA := S8.k.c.x.block (n := 0) (d := 0) gA rfl
    have hbD := S8.k.c.t.block (n := 0) (d := 0) gD rfl
    have hn1 : ¬ g = gA := hg1
    have hn2 : ¬ gA = g := fun e => hg1 e.symm
    have hn3 : ¬ g = gD := hg2
    have hn4 : ¬ gD = g := fun e => hg2 e.symm
    have hn5 : ¬ gD = gA := fun e => hg3 e.symm
    have hn6 : ¬ w.heap.size + 1 = gA := by omega
    have hn7 : ¬ gA = w.heap.size + 1 := by omega
    have hn8 : ¬ w.heap.size + 1 = gD := by omega
    have hn9 : ¬ gD = w.heap.size + 1 := by omega
    clear hg1 hg2 hbA hbD cT cN
    by_cases htx : tl = (x : Int)
    · have htb : (tl == (x : Int)) = true := by simpa using htx
      have S10 := (S8.setT (j := i) haf).setN (j := x) (fitI (-2) (by omega) (by omega))
      have e3 : cutT tail i (-1) x = tail.set i (-1) := if_pos (by rw [HTL.out, htx])
      have HF := Lib.hid S10.doneK
      have E3 := Lib.hid e3
      clear htx e3 S10 S8
      go_wp2
      exact bodyPost_ret (v := .agg #[.slice (some ⟨gA, 0, none⟩) n a5, .slice (some ⟨gB, 0, none⟩) m b5, .slice (some ⟨gD, 0, none⟩) m d5]) (by simp [results, Try.results38, go_sem, *]) rfl (by rw [HAH.out, E1.out, E2.out, E3.out]; exact HF.out)
    · have htb : (tl == (x : Int)) = false := by simpa using htx
      have S10 := S8.setN (j := x) (fitI (-2) (by omega) (by omega))
      have e3 : cutT tail i (-1) x = tail := if_neg (by rw [HTL.out]; exact htx)
      have HF := Lib.hid S10.doneK
      have E3 := Lib.hid e3
      clear htx e3 S10 S8
      go_wp2
      exact bodyPost_ret (v := .agg #[.slice (some ⟨gA, 0, none⟩) n a5, .slice (some ⟨gB, 0, none⟩) m b5, .slice (some ⟨gD, 0, none⟩) m d5]) (by simp [results, Try.results38, go_sem, *]) rfl (by rw [HAH.out, E1.out, E2.out, E3.out]; exact HF.out)
  · obtain ⟨ap, rfl⟩ : ∃ ap : Nat, ah = ap := ⟨ah.toNat, by omega⟩
    have hap : ap < n := by omega
    have HAM := Lib.hid ham
    clear ham har
    refine wp_region_held (S := fun U => ∃ N' H', PuS w U #[.slice (some ⟨bA, oA, none⟩) n a, .slice B m b, .slice (some ⟨bD, oD, none⟩) m d] g (some ⟨gA, 0, none⟩) a5 (some ⟨gB, 0, none⟩) b5 (some ⟨gD, 0, none⟩) d5 n m N' H' tail) (by kernel_rfl) ?_
    change wpAnyH _ _ _ _ _ _ _ _ (World.drew _)
    have hS0 : (fun U => ∃ N' H', PuS w U #[.slice (some ⟨bA, oA, none⟩) n a, .slice B m b, .slice (some ⟨bD, oD, none⟩) m d] g (some ⟨gA, 0, none⟩) a5 (some ⟨gB, 0, none⟩) b5 (some ⟨gD, 0, none⟩) d5 n m N' H' tail) w7.drew := ⟨_, _, S7d⟩
    refine wpAnyH_take (i := 0) (v := .agg #[.slice (some ⟨gA, 0, none⟩) n a5, .slice (some ⟨gB, 0, none⟩) m b5, .slice (some ⟨gD, 0, none⟩) m d5]) rfl (by kernel_rfl) (by kernel_rfl) (by kernel_rfl) (fun _ _ _ h => h) (.inl ⟨by rfl, fun U hU => by obtain ⟨N', H', h1⟩ := hU; have h3 := h1.p.e0; have h4 := h1.p.e1; have h5 := h1.p.e2; go_simp⟩) hS0 ?_
    refine wpAnyH_take (i := 1) (v := .int .i64 i) rfl (by kernel_rfl) (by kernel_rfl) (by kernel_rfl) (fun _ _ _ h => h) (.inl ⟨by rfl, fun U hU => by go_simp⟩) hS0 ?_
    refine wpAnyH_take (i := 2) (v := .int .i64 (ap : Int)) rfl (by kernel_rfl) (by kernel_rfl) (by kernel_rfl) (fun _ _ _ h => h) (.inl ⟨by rfl, fun U hU => by go_simp⟩) hS0 ?_
    refine wpAnyH_take (i := 3) (v := .pointer (some ⟨w.heap.size, 0, none⟩)) rfl (by kernel_rfl) (by kernel_rfl) (by kernel_rfl) (fun _ _ _ h => h) (.inl ⟨by rfl, fun U hU => by go_simp⟩) hS0 ?_
    refine wpAnyH_take (i := 4) (v := .slice (some ⟨bA, oA, none⟩) n a) rfl (by kernel_rfl) (by kernel_rfl) (by kernel_rfl) (fun _ _ _ h => h) (.inl ⟨by rfl, fun U hU => by obtain ⟨N', H', h1⟩ := hU; have h3 := h1.c.e0; go_simp⟩) hS0 ?_
    refine wpAnyH_take (i := 5) (v := .int .i64 x) rfl (by kernel_rfl) (by kernel_rfl) (by kernel_rfl) (fun _ _ _ h => h) (.inl ⟨by rfl, fun U hU => by go_simp⟩) hS0 ?_
    refine wpAnyH_take (i := 6) (v := .pointer (some ⟨bA, oA + x, none⟩)) rfl (by kernel_rfl) (by kernel_rfl) (by kernel_rfl) (fun _ _ _ h => h) (.inl ⟨by rfl, fun U hU => by go_simp⟩) hS0 ?_
    refine wpAnyH_take (i := 7) (v := .int .i64 y) rfl (by kernel_rfl) (by kernel_rfl) (by kernel_rfl) (fun _ _ _ h => h) (.inl ⟨by rfl, fun U hU => by obtain ⟨N', H', h1⟩ := hU; have h3 := HCY.out _ h1.below; go_simp⟩) hS0 ?_
    refine wpAnyH_all (rs := [8]) (by kernel_rfl) (by simp) ?_
    intro i' hi'
    simp only [List.mem_cons, List.not_mem_nil, or_false] at hi'
    subst hi'
    unfold wpOp
    go_simp
    left
    refine (link_next _ _ _ n a5 m b5 m d5 gA ap i y w7.drew _ rfl hap hgA6 (S7d.cellN hap).1 (S7d.cellN hap).2).mono ?_
    rintro e w8 ⟨rfl, rfl⟩
    have S8 := (S7d.setN (j := ap) hyf).alloc (.cells #[.slice (some ⟨gA, 0, none⟩) n a5, .slice (some ⟨gB, 0, none⟩) m b5, .slice (some ⟨gD, 0, none⟩) m d5] 24)
    refine ⟨⟨_, _, S8⟩, by kernel_rfl, ?_⟩
    clear hS0 S7d hgB6 hgA6
    generalize hW8 : World.alloc _ _ = W8 at S8 ⊢
    clear hW8
    have e1 : cutN next (ap : Int) x = (next.set ap y).set x (-2) := by unfold cutN; rw [if_neg HAM.out, Int.toNat_natCast, HY.out]
    have e2 : cutH next head i (ap : Int) x = head := by unfold cutH; rw [if_neg HAM.out]
    have E1 := Lib.hid e1
    have E2 := Lib.hid e2
    clear e1 e2
    have c2 := S8.c.e2
    have ct := HCT.out _ S8.below
    have cN := S8.cellN hxn
    have cN1 := cN.1
    have cN2 := cN.2
    have cT := S8.cellT him
    have cT1 := cT.1
    have cT2 := cT.2
    have p0 := S8.p.e0
    have p1 := S8.p.e1
    have p2 := S8.p.e2
    have z0 := S8.z.e0
    have z1 := S8.z.e1
    have z2 := S8.z.e2
    have f0 := S8.z.frozen 0
    have f1 := S8.z.frozen 1
    have f2 := S8.z.frozen 2
    have hg1 := row_ne S8.k.c.x S8.p
    have hg2 := row_ne S8.k.c.t S8.p
    have hg3 : ¬ gA = gD := fun e => S8.k.ad gA rfl (by rw [e]; rfl)
    have hbA := S8.k.c.x.block (n := 0) (d := 0) gA rfl
    have hbD := S8.k.c.t.block (n := 0) (d := 0) gD rfl
    have hn1 : ¬ g = gA := hg1
    have hn2 : ¬ gA = g := fun e => hg1 e.symm
    have hn3 : ¬ g = gD := hg2
    have hn4 : ¬ gD = g := fun e => hg2 e.symm
    have hn5 : ¬ gD = gA := fun e => hg3 e.symm
    have hn6 : ¬ w.heap.size + 1 = gA := by omega
    have hn7 : ¬ gA = w.heap.size + 1 := by omega
    have hn8 : ¬ w.heap.size + 1 = gD := by omega
    have hn9 : ¬ gD = w.heap.size + 1 := by omega
    clear hg1 hg2 hbA hbD cT cN
    by_cases htx : tl = (x : Int)
    · have htb : (tl == (x : Int)) = true := by simpa using htx
      have S10 := (S8.setT (j := i) haf).setN (j := x) (fitI (-2) (by omega) (by omega))
      have e3 : cutT tail i (ap : Int) x = tail.set i (ap : Int) := if_pos (by rw [HTL.out, htx])
      have HF := Lib.hid S10.doneK
      have E3 := Lib.hid e3
      clear htx e3 S10 S8
      go_wp2
      exact bodyPost_ret (v := .agg #[.slice (some ⟨gA, 0, none⟩) n a5, .slice (some ⟨gB, 0, none⟩) m b5, .slice (some ⟨gD, 0, none⟩) m d5]) (by simp [results, Try.results38, go_sem, *]) rfl (by rw [HAH.out, E1.out, E2.out, E3.out]; exact HF.out)
    · have htb : (tl == (x : Int)) = false := by simpa using htx
      have S10 := S8.setN (j := x) (fitI (-2) (by omega) (by omega))
      have e3 : cutT tail i (ap : Int) x = tail := if_neg (by rw [HTL.out]; exact htx)
      have HF := Lib.hid S10.doneK
      have E3 := Lib.hid e3
      clear htx e3 S10 S8
      go_wp2
      exact bodyPost_ret (v := .agg #[.slice (some ⟨gA, 0, none⟩) n a5, .slice (some ⟨gB, 0, none⟩) m b5, .slice (some ⟨gD, 0, none⟩) m d5]) (by simp [results, Try.results38, go_sem, *]) rfl (by rw [HAH.out, E1.out, E2.out, E3.out]; exact HF.out)

end Go.Proofs.Ytiheeehegjfmgaa

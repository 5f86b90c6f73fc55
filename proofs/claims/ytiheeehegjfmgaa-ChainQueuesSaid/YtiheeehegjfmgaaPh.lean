/-
  The program's Push, where it pushes.
-/
import Derived.Test.YtiheeehegjfmgaaPk
namespace Go.Proofs.Ytiheeehegjfmgaa
open Go.RowKit Go.Shelf

set_option maxHeartbeats 4000000 in
theorem push_ok (A B D : Option Addr) (n a m b k d : Nat) (next head tail : List Int) (i : Nat) (x : Int) (qs : List (List Int)) (r : Rep next head tail qs) (hi : i < qs.length) (hin2 : inBd x (n : Int) = true) (hw : whereQ qs x = -1) (w : World) (hp : Chn w A n B m D k next head tail) :
    Calls Try.prog 12 #[.agg #[.slice A n a, .slice B m b, .slice D k d], .int .i64 i, .int .i64 x] w (NewCE (pushN next tail i x) (pushH head tail i x) (pushT tail i x) 0 w) := by
  obtain rfl : m = k := by have := hp.h.1; have := hp.t.1; have := r.lh; have := r.lt; omega
  have hb2 := ((Below.refl w.heap.size w).alloc (Nat.le_refl _) (.cells #[.slice A n a, .slice B m b, .slice D m d] 24)).alloc (by simp) (.cells #[.slice none 0 0, .slice none 0 0, .slice none 0 0] 24)
  have K2 := (Bk.new w 24 #[.slice A n a, .slice B m b, .slice D m d]).alloc (.cells #[.slice none 0 0, .slice none 0 0, .slice none 0 0] 24)
  have Z2 := Bk.new (w.alloc (.cells #[.slice A n a, .slice B m b, .slice D m d] 24)) 24 #[.slice none 0 0, .slice none 0 0, .slice none 0 0]
  rw [size_alloc] at Z2
  have HP2 := Lib.hid (hp.below hb2)
  have HB2 := Lib.hid hb2
  have c0 := K2.e0
  have c1 := K2.e1
  have c2 := K2.e2
  have HP0 := Lib.hid hp
  have HLX := Lib.hid hp.x.1
  have HLH := Lib.hid hp.h.1
  have HLT := Lib.hid hp.t.1
  clear hp hb2
  have h01 : 0 ≤ x ∧ x < (n : Int) := by simpa [inBd] using hin2
  obtain ⟨h0, h1⟩ := h01
  have him : i < m := by have := HLH.out; have := r.lh; omega
  have hn1 : n ≤ 1024 := by rw [← HLX.out]; exact r.few
  have hm1 : m ≤ 256 := by have := HLH.out; have := r.lh; have := r.l2; omega
  have HHW := Lib.hid hw
  go_enter Try.func12, Try.ntmps12
  go_upto_region 7 with first
    | (go_at_call 25; refine (whereF_ok A B D n a m b m d next head tail x qs r hin2 ((w.alloc (.cells #[.slice A n a, .slice B m b, .slice D m d] 24)).alloc (.cells #[.slice none 0 0, .slice none 0 0, .slice none 0 0] 24)) HP2.out).mono ?_; rintro e w3 ⟨rfl, hb3⟩; rw [HHW.out]; have HB3 := Lib.hid (below3 HB2.out hb3); have K3 := K2.below hb3 K2.lt; have k0 := K3.e0; have k1 := K3.e1; have k2 := K3.e2; have Z3 := Z2.below hb3 Z2.lt; have z0 := Z3.e0; have z1 := Z3.e1; have z2 := Z3.e2; have f0 := Z3.frozen 0; have f1 := Z3.frozen 1; have f2 := Z3.frozen 2; have HP3 := Lib.hid (HP2.out.below hb3); have HS3 := Lib.hid hb3.size; clear hb3)
    | (go_at_call 32; refine (clone_any A B D n a m b m d next head tail w3 HP3.out).mono ?_; rintro e w5 ⟨A5, a5, B5, b5, D5, d5, rfl, hk5, hb5⟩; have HB5 := Lib.hid (below3 HB3.out hb5); have K5 := K3.below hb5 K3.lt; have l0 := K5.e0; have l1 := K5.e1; have l2 := K5.e2; have Z5 := Z3.below hb5 Z3.lt; have HP5 := Lib.hid (HP3.out.below hb5); have HS5 := Lib.hid hb5.size; have HK5 := Lib.hid hk5; obtain ⟨gA, rfl, hgA, -, -, -⟩ := hk5.c.x.form (by rw [HLX.out]; omega); obtain ⟨gB, rfl, hgB, -, -, -⟩ := hk5.c.h.form (by rw [HLH.out]; omega); obtain ⟨gD, rfl, hgD, -, -, -⟩ := hk5.c.t.form (by rw [HLT.out]; omega); rw [HLX.out, HLH.out, HLT.out]; clear hb5 hk5)
  have S6 : PuS w (w5.alloc (.cells #[.slice (some ⟨gA, 0, none⟩) n a5, .slice (some ⟨gB, 0, none⟩) m b5, .slice (some ⟨gD, 0, none⟩) m d5] 24)) #[.slice A n a, .slice B m b, .slice D m d] w5.heap.size (some ⟨gA, 0, none⟩) a5 (some ⟨gB, 0, none⟩) b5 (some ⟨gD, 0, none⟩) d5 n m next head tail :=
    ⟨K5.alloc _, Z5.alloc _, Bk.new _ _ _, HB5.out.alloc HB5.out.size _, (HK5.out.base_ (by have := HS3.out; rw [size_alloc, size_alloc] at this; exact this)).below ((Below.refl _ _).alloc (Nat.le_refl _) _), (by have := HS3.out; have := HS5.out; simp at *; omega), HLX.out, HLH.out, HLT.out⟩
  obtain ⟨bD, oD, rfl, hbD, hcD⟩ := HP0.out.t.2.2.2 (by omega)
  obtain ⟨tl, htl⟩ : ∃ z, nth tail i = z := ⟨_, rfl⟩
  have hcd5 := hcD i him
  rw [htl] at hcd5
  have htf := r.tl i hi
  rw [htl] at htf
  have HTF := Lib.hid htf
  have HTL := Lib.hid htl
  have hcall : ∀ U : World, Below w.heap.size w U → U.cell? ⟨bD, oD + i, none⟩ = some (.int .i64 tl) := fun U hU => (hU.cell (p := ⟨bD, oD + i, none⟩) hbD).trans hcd5
  have HCA := Lib.hid hcall
  have hcd := hcall _ S6.drew.below
  clear hcall htf htl K5 Z5 hcD hcd5 l0 l1 l2 z0 z1 z2 f0 f1 f2 k0 k1 k2 c0 c1 c2 K2 Z2 K3 Z3
  generalize w5.alloc (.cells #[.slice (some ⟨gA, 0, none⟩) n a5, .slice (some ⟨gB, 0, none⟩) m b5, .slice (some ⟨gD, 0, none⟩) m d5] 24) = W6 at S6 hcd ⊢
  generalize w5.heap.size = g at S6 ⊢
  have S6d := S6.drew
  have hxf : Fit x := by unfold Fit; omega
  have hgB6 : gB < W6.drew.heap.size := (S6d.k.c.h.que.block (n := 0) (d := 0) gB rfl).2
  have hgA6 : gA < W6.drew.heap.size := (S6d.k.c.x.que.block (n := 0) (d := 0) gA rfl).2
  by_cases htm : tl = -1
  · have HTM := Lib.hid htm
    subst htm
    refine wp_region_held (S := fun U => (∃ N' H', PuS w U #[.slice A n a, .slice B m b, .slice (some ⟨bD, oD, none⟩) m d] g (some ⟨gA, 0, none⟩) a5 (some ⟨gB, 0, none⟩) b5 (some ⟨gD, 0, none⟩) d5 n m N' H' tail) ∧ U.cell? ⟨bD, oD + i, none⟩ = some (.int .i64 (-1))) (by kernel_rfl) ?_
    change wpAnyH _ _ _ _ _ _ _ _ (World.drew _)
    have hS0 : (fun U => (∃ N' H', PuS w U #[.slice A n a, .slice B m b, .slice (some ⟨bD, oD, none⟩) m d] g (some ⟨gA, 0, none⟩) a5 (some ⟨gB, 0, none⟩) b5 (some ⟨gD, 0, none⟩) d5 n m N' H' tail) ∧ U.cell? ⟨bD, oD + i, none⟩ = some (.int .i64 (-1))) W6.drew := ⟨⟨_, _, S6d⟩, hcd⟩
    refine wpAnyH_take (i := 0) (v := .agg #[.slice (some ⟨gA, 0, none⟩) n a5, .slice (some ⟨gB, 0, none⟩) m b5, .slice (some ⟨gD, 0, none⟩) m d5]) rfl (by kernel_rfl) (by kernel_rfl) (by kernel_rfl) (fun _ _ _ h => h) (.inl ⟨by rfl, fun U hU => by obtain ⟨⟨N', H', h1⟩, h2⟩ := hU; have h3 := h1.p.e0; have h4 := h1.p.e1; have h5 := h1.p.e2; go_simp⟩) hS0 ?_
    refine wpAnyH_take (i := 1) (v := .int .i64 i) rfl (by kernel_rfl) (by kernel_rfl) (by kernel_rfl) (fun _ _ _ h => h) (.inl ⟨by rfl, fun U hU => by go_simp⟩) hS0 ?_
    refine wpAnyH_take (i := 2) (v := .pointer (some ⟨w.heap.size, 2, none⟩)) rfl (by kernel_rfl) (by kernel_rfl) (by kernel_rfl) (fun _ _ _ h => h) (.inl ⟨by rfl, fun U hU => by go_simp⟩) hS0 ?_
    refine wpAnyH_take (i := 3) (v := .slice (some ⟨bD, oD, none⟩) m d) rfl (by kernel_rfl) (by kernel_rfl) (by kernel_rfl) (fun _ _ _ h => h) (.inl ⟨by rfl, fun U hU => by obtain ⟨⟨N', H', h1⟩, h2⟩ := hU; have h3 := h1.c.e2; go_simp⟩) hS0 ?_
    refine wpAnyH_take (i := 4) (v := .int .i64 i) rfl (by kernel_rfl) (by kernel_rfl) (by kernel_rfl) (fun _ _ _ h => h) (.inl ⟨by rfl, fun U hU => by go_simp⟩) hS0 ?_
    refine wpAnyH_take (i := 5) (v := .pointer (some ⟨bD, oD + i, none⟩)) rfl (by kernel_rfl) (by kernel_rfl) (by kernel_rfl) (fun _ _ _ h => h) (.inl ⟨by rfl, fun U hU => by go_simp⟩) hS0 ?_
    refine wpAnyH_take (i := 6) (v := .int .i64 (-1)) rfl (by kernel_rfl) (by kernel_rfl) (by kernel_rfl) (fun _ _ _ h => h) (.inl ⟨by rfl, fun U hU => by obtain ⟨⟨N', H', h1⟩, h2⟩ := hU; go_simp⟩) hS0 ?_
    refine wpAnyH_take (i := 7) (v := .int .i64 x) rfl (by kernel_rfl) (by kernel_rfl) (by kernel_rfl) (fun _ _ _ h => h) (.inl ⟨by rfl, fun U hU => by go_simp⟩) hS0 ?_
    refine wpAnyH_all (rs := [8]) (by kernel_rfl) (by simp) ?_
    intro i' hi'
    simp only [List.mem_cons, List.not_mem_nil, or_false] at hi'
    subst hi'
    unfold wpOp
    go_simp
    left
    refine (link_head _ _ _ n a5 m b5 m d5 gB i x W6.drew _ rfl him hgB6 (S6d.cellH him).1 (S6d.cellH him).2).mono ?_
    rintro e w7 ⟨rfl, rfl⟩
    have S7 := (S6d.setH (j := i) hxf).alloc (.cells #[.slice (some ⟨gA, 0, none⟩) n a5, .slice (some ⟨gB, 0, none⟩) m b5, .slice (some ⟨gD, 0, none⟩) m d5] 24)
    have hc7 := HCA.out _ S7.below
    refine ⟨⟨⟨_, _, S7⟩, hc7⟩, by kernel_rfl, ?_⟩
    clear hS0 hcd hc7
    generalize hW7 : World.alloc _ _ = W7 at S7 ⊢
    clear hW7
    have S7d := S7.drew
    have S8 := S7d.setN (j := x.toNat) (fitI (-1) (by omega) (by omega))
    have S9 := S8.setT (j := i) hxf
    have e1 : pushN next tail i x = next.set x.toNat (-1) := by unfold pushN; rw [HTL.out]; rfl
    have e2 : pushH head tail i x = (head.set i x) := by unfold pushH; rw [HTL.out]; rfl
    have HF := Lib.hid (show NewCE (pushN next tail i x) (pushH head tail i x) (pushT tail i x) 0 w _ _ from by rw [e1, e2]; exact S9.done (er := 0))
    have cN := S7d.cellN (j := x.toNat) (by omega)
    have cT := S7.cellT him
    have cT1 := cT.1
    have cT2 := cT.2
    have p0 := S7.p.e0
    have p1 := S7.p.e1
    have p2 := S7.p.e2
    have z0 := S7.z.e0
    have z1 := S7.z.e1
    have z2 := S7.z.e2
    have f0 := S7.z.frozen 0
    have f1 := S7.z.frozen 1
    have f2 := S7.z.frozen 2
    have hg1 := row_ne S7.k.c.x S7.p
    have hg2 := row_ne S7.k.c.t S7.p
    have hg3 : ¬ gA = gD := fun e => S7.k.ad gA rfl (by rw [e]; rfl)
    have hbA := S7.k.c.x.block (n := 0) (d := 0) gA rfl
    have hbD := S7.k.c.t.block (n := 0) (d := 0) gD rfl
    have hn1 : ¬ g = gA := hg1
    have hn2 : ¬ gA = g := fun e => hg1 e.symm
    have hn3 : ¬ g = gD := hg2
    have hn4 : ¬ gD = g := fun e => hg2 e.symm
    have hn5 : ¬ gD = gA := fun e => hg3 e.symm
    have hn6 : ¬ w.heap.size + 1 = gA := by omega
    have hn7 : ¬ gA = w.heap.size + 1 := by omega
    have hn8 : ¬ w.heap.size + 1 = gD := by omega
    have hn9 : ¬ gD = w.heap.size + 1 := by omega
    clear hg1 hg2 hbA hbD cT
    clear e1 e2
    go_wp2
    refine wp_region_held (S := fun U => ∃ N' H' T', PuS w U #[.slice A n a, .slice B m b, .slice (some ⟨bD, oD, none⟩) m d] g (some ⟨gA, 0, none⟩) a5 (some ⟨gB, 0, none⟩) b5 (some ⟨gD, 0, none⟩) d5 n m N' H' T') (by kernel_rfl) ?_
    change wpAnyH _ _ _ _ _ _ _ _ (World.drew _)
    have hS1 : (fun U => ∃ N' H' T', PuS w U #[.slice A n a, .slice B m b, .slice (some ⟨bD, oD, none⟩) m d] g (some ⟨gA, 0, none⟩) a5 (some ⟨gB, 0, none⟩) b5 (some ⟨gD, 0, none⟩) d5 n m N' H' T') W7.drew := ⟨_, _, _, S7d⟩
    refine wpAnyH_take (i := 0) (v := .pointer (some ⟨g, 0, none⟩)) rfl (by kernel_rfl) (by kernel_rfl) (by kernel_rfl) (fun _ _ _ h => h) (.inl ⟨by rfl, fun U hU => by go_simp⟩) hS1 ?_
    refine wpAnyH_take (i := 1) (v := .slice (some ⟨gA, 0, none⟩) n a5) rfl (by kernel_rfl) (by kernel_rfl) (by kernel_rfl) (fun _ _ _ h => h) (.inl ⟨by rfl, fun U hU => by obtain ⟨N', H', T', h1⟩ := hU; have h3 := h1.p.e0; go_simp⟩) hS1 ?_
    refine wpAnyH_take (i := 2) (v := .int .i64 x) rfl (by kernel_rfl) (by kernel_rfl) (by kernel_rfl) (fun _ _ _ h => h) (.inl ⟨by rfl, fun U hU => by go_simp⟩) hS1 ?_
    refine wpAnyH_take (i := 3) (v := .pointer (some ⟨g, 2, none⟩)) rfl (by kernel_rfl) (by kernel_rfl) (by kernel_rfl) (fun _ _ _ h => h) (.inl ⟨by rfl, fun U hU => by go_simp⟩) hS1 ?_
    refine wpAnyH_take (i := 4) (v := .slice (some ⟨gD, 0, none⟩) m d5) rfl (by kernel_rfl) (by kernel_rfl) (by kernel_rfl) (fun _ _ _ h => h) (.inl ⟨by rfl, fun U hU => by obtain ⟨N', H', T', h1⟩ := hU; have h3 := h1.p.e2; go_simp⟩) hS1 ?_
    refine wpAnyH_take (i := 5) (v := .int .i64 i) rfl (by kernel_rfl) (by kernel_rfl) (by kernel_rfl) (fun _ _ _ h => h) (.inl ⟨by rfl, fun U hU => by go_simp⟩) hS1 ?_
    refine wpAnyH_take (i := 6) (v := .int .i64 x) rfl (by kernel_rfl) (by kernel_rfl) (by kernel_rfl) (fun _ _ _ h => h) (.inl ⟨by rfl, fun U hU => by go_simp⟩) hS1 ?_
    refine wpAnyH_take (i := 7) (v := .pointer (some ⟨gA, x.toNat, none⟩)) rfl (by kernel_rfl) (by kernel_rfl) (by kernel_rfl) (fun _ _ _ h => h) (.inl ⟨by rfl, fun U hU => by go_simp⟩) hS1 ?_
    refine wpAnyH_all (rs := [8]) (by kernel_rfl) (by simp) ?_
    intro i' hi'
    simp only [List.mem_cons, List.not_mem_nil, or_false] at hi'
    subst hi'
    have cN1 := cN.1
    have cN2 := cN.2
    unfold wpOp
    go_simp
    left
    refine ⟨⟨_, _, _, S8⟩, ?_⟩
    refine wpAnyH_take (i := 9) (v := .pointer (some ⟨gD, i, none⟩)) rfl (by kernel_rfl) (by kernel_rfl) (by kernel_rfl) (fun _ _ _ h => h) (.inl ⟨by rfl, fun U hU => by go_simp⟩) ⟨_, _, _, S8⟩ ?_
    refine wpAnyH_all (rs := [10]) (by kernel_rfl) (by simp) ?_
    intro i' hi'
    simp only [List.mem_cons, List.not_mem_nil, or_false] at hi'
    subst hi'
    unfold wpOp
    go_simp
    left
    refine ⟨⟨_, _, _, S9⟩, by kernel_rfl, ?_⟩
    clear S7 S7d S8 S9 hS1 S6 S6d
    go_wp2
    exact bodyPost_ret (v := .tuple #[.agg #[.slice (some ⟨gA, 0, none⟩) n a5, .slice (some ⟨gB, 0, none⟩) m b5, .slice (some ⟨gD, 0, none⟩) m d5], .int .i64 0]) (by simp [results, Try.results12, go_sem, *]) rfl HF.out
  · have htr : 0 ≤ tl ∧ tl < (n : Int) := by
      have h1 := HTF.out
      unfold lastO at h1
      split at h1
      · exact absurd h1 htm
      · have h2 := r.rng i ((qth qs i).length - 1) hi (by omega)
        rw [HLX.out] at h2
        omega
    obtain ⟨htr0, htr1⟩ := htr
    obtain ⟨tp, rfl⟩ : ∃ tp : Nat, tl = tp := ⟨tl.toNat, by omega⟩
    have htp : tp < n := by omega
    have HTM := Lib.hid htm
    clear htm htr0 htr1
    refine wp_region_held (S := fun U => (∃ N' H', PuS w U #[.slice A n a, .slice B m b, .slice (some ⟨bD, oD, none⟩) m d] g (some ⟨gA, 0, none⟩) a5 (some ⟨gB, 0, none⟩) b5 (some ⟨gD, 0, none⟩) d5 n m N' H' tail) ∧ U.cell? ⟨bD, oD + i, none⟩ = some (.int .i64 (tp : Int))) (by kernel_rfl) ?_
    change wpAnyH _ _ _ _ _ _ _ _ (World.drew _)
    have hS0 : (fun U => (∃ N' H', PuS w U #[.slice A n a, .slice B m b, .slice (some ⟨bD, oD, none⟩) m d] g (some ⟨gA, 0, none⟩) a5 (some ⟨gB, 0, none⟩) b5 (some ⟨gD, 0, none⟩) d5 n m N' H' tail) ∧ U.cell? ⟨bD, oD + i, none⟩ = some (.int .i64 (tp : Int))) W6.drew := ⟨⟨_, _, S6d⟩, hcd⟩
    refine wpAnyH_take (i := 0) (v := .agg #[.slice (some ⟨gA, 0, none⟩) n a5, .slice (some ⟨gB, 0, none⟩) m b5, .slice (some ⟨gD, 0, none⟩) m d5]) rfl (by kernel_rfl) (by kernel_rfl) (by kernel_rfl) (fun _ _ _ h => h) (.inl ⟨by rfl, fun U hU => by obtain ⟨⟨N', H', h1⟩, h2⟩ := hU; have h3 := h1.p.e0; have h4 := h1.p.e1; have h5 := h1.p.e2; go_simp⟩) hS0 ?_
    refine wpAnyH_take (i := 1) (v := .int .i64 i) rfl (by kernel_rfl) (by kernel_rfl) (by kernel_rfl) (fun _ _ _ h => h) (.inl ⟨by rfl, fun U hU => by go_simp⟩) hS0 ?_
    refine wpAnyH_take (i := 2) (v := .pointer (some ⟨w.heap.size, 2, none⟩)) rfl (by kernel_rfl) (by kernel_rfl) (by kernel_rfl) (fun _ _ _ h => h) (.inl ⟨by rfl, fun U hU => by go_simp⟩) hS0 ?_
    refine wpAnyH_take (i := 3) (v := .slice (some ⟨bD, oD, none⟩) m d) rfl (by kernel_rfl) (by kernel_rfl) (by kernel_rfl) (fun _ _ _ h => h) (.inl ⟨by rfl, fun U hU => by obtain ⟨⟨N', H', h1⟩, h2⟩ := hU; have h3 := h1.c.e2; go_simp⟩) hS0 ?_
    refine wpAnyH_take (i := 4) (v := .int .i64 i) rfl (by kernel_rfl) (by kernel_rfl) (by kernel_rfl) (fun _ _ _ h => h) (.inl ⟨by rfl, fun U hU => by go_simp⟩) hS0 ?_
    refine wpAnyH_take (i := 5) (v := .pointer (some ⟨bD, oD + i, none⟩)) rfl (by kernel_rfl) (by kernel_rfl) (by kernel_rfl) (fun _ _ _ h => h) (.inl ⟨by rfl, fun U hU => by go_simp⟩) hS0 ?_
    refine wpAnyH_take (i := 6) (v := .int .i64 (tp : Int)) rfl (by kernel_rfl) (by kernel_rfl) (by kernel_rfl) (fun _ _ _ h => h) (.inl ⟨by rfl, fun U hU => by obtain ⟨⟨N', H', h1⟩, h2⟩ := hU; go_simp⟩) hS0 ?_
    refine wpAnyH_take (i := 7) (v := .int .i64 x) rfl (by kernel_rfl) (by kernel_rfl) (by kernel_rfl) (fun _ _ _ h => h) (.inl ⟨by rfl, fun U hU => by go_simp⟩) hS0 ?_
    refine wpAnyH_all (rs := [8]) (by kernel_rfl) (by simp) ?_
    intro i' hi'
    simp only [List.mem_cons, List.not_mem_nil, or_false] at hi'
    subst hi'
    unfold wpOp
    go_simp
    left
    refine (link_next _ _ _ n a5 m b5 m d5 gA tp i x W6.drew _ rfl (by omega) hgA6 (S6d.cellN (j := tp) (by omega)).1 (S6d.cellN (j := tp) (by omega)).2).mono ?_
    rintro e w7 ⟨rfl, rfl⟩
    have S7 := (S6d.setN (j := tp) hxf).alloc (.cells #[.slice (some ⟨gA, 0, none⟩) n a5, .slice (some ⟨gB, 0, none⟩) m b5, .slice (some ⟨gD, 0, none⟩) m d5] 24)
    have hc7 := HCA.out _ S7.below
    refine ⟨⟨⟨_, _, S7⟩, hc7⟩, by kernel_rfl, ?_⟩
    clear hS0 hcd hc7
    generalize hW7 : World.alloc _ _ = W7 at S7 ⊢
    clear hW7
    have S7d := S7.drew
    have S8 := S7d.setN (j := x.toNat) (fitI (-1) (by omega) (by omega))
    have S9 := S8.setT (j := i) hxf
    have e1 : pushN next tail i x = (next.set tp x).set x.toNat (-1) := by unfold pushN; rw [HTL.out]; rw [if_neg HTM.out, Int.toNat_natCast]
    have e2 : pushH head tail i x = head := by unfold pushH; rw [HTL.out]; rw [if_neg HTM.out]
    have HF := Lib.hid (show NewCE (pushN next tail i x) (pushH head tail i x) (pushT tail i x) 0 w _ _ from by rw [e1, e2]; exact S9.done (er := 0))
    have cN := S7d.cellN (j := x.toNat) (by omega)
    have cT := S7.cellT him
    have cT1 := cT.1
    have cT2 := cT.2
    have p0 := S7.p.e0
    have p1 := S7.p.e1
    have p2 := S7.p.e2
    have z0 := S7.z.e0
    have z1 := S7.z.e1
    have z2 := S7.z.e2
    have f0 := S7.z.frozen 0
    have f1 := S7.z.frozen 1
    have f2 := S7.z.frozen 2
    have hg1 := row_ne S7.k.c.x S7.p
    have hg2 := row_ne S7.k.c.t S7.p
    have hg3 : ¬ gA = gD := fun e => S7.k.ad gA rfl (by rw [e]; rfl)
    have hbA := S7.k.c.x.block (n := 0) (d := 0) gA rfl
    have hbD := S7.k.c.t.block (n := 0) (d := 0) gD rfl
    have hn1 : ¬ g = gA := hg1
    have hn2 : ¬ gA = g := fun e => hg1 e.symm
    have hn3 : ¬ g = gD := hg2
    have hn4 : ¬ gD = g := fun e => hg2 e.symm
    have hn5 : ¬ gD = gA := fun e => hg3 e.symm
    have hn6 : ¬ w.heap.size + 1 = gA := by omega
    have hn7 : ¬ gA = w.heap.size + 1 := by omega
    have hn8 : ¬ w.heap.size + 1 = gD := by omega
    have hn9 : ¬ gD = w.heap.size + 1 := by omega
    clear hg1 hg2 hbA hbD cT
    clear e1 e2
    go_wp2
    refine wp_region_held (S := fun U => ∃ N' H' T', PuS w U #[.slice A n a, .slice B m b, .slice (some ⟨bD, oD, none⟩) m d] g (some ⟨gA, 0, none⟩) a5 (some ⟨gB, 0, none⟩) b5 (some ⟨gD, 0, none⟩) d5 n m N' H' T') (by kernel_rfl) ?_
    change wpAnyH _ _ _ _ _ _ _ _ (World.drew _)
    have hS1 : (fun U => ∃ N' H' T', PuS w U #[.slice A n a, .slice B m b, .slice (some ⟨bD, oD, none⟩) m d] g (some ⟨gA, 0, none⟩) a5 (some ⟨gB, 0, none⟩) b5 (some ⟨gD, 0, none⟩) d5 n m N' H' T') W7.drew := ⟨_, _, _, S7d⟩
    refine wpAnyH_take (i := 0) (v := .pointer (some ⟨g, 0, none⟩)) rfl (by kernel_rfl) (by kernel_rfl) (by kernel_rfl) (fun _ _ _ h => h) (.inl ⟨by rfl, fun U hU => by go_simp⟩) hS1 ?_
    refine wpAnyH_take (i := 1) (v := .slice (some ⟨gA, 0, none⟩) n a5) rfl (by kernel_rfl) (by kernel_rfl) (by kernel_rfl) (fun _ _ _ h => h) (.inl ⟨by rfl, fun U hU => by obtain ⟨N', H', T', h1⟩ := hU; have h3 := h1.p.e0; go_simp⟩) hS1 ?_
    refine wpAnyH_take (i := 2) (v := .int .i64 x) rfl (by kernel_rfl) (by kernel_rfl) (by kernel_rfl) (fun _ _ _ h => h) (.inl ⟨by rfl, fun U hU => by go_simp⟩) hS1 ?_
    refine wpAnyH_take (i := 3) (v := .pointer (some ⟨g, 2, none⟩)) rfl (by kernel_rfl) (by kernel_rfl) (by kernel_rfl) (fun _ _ _ h => h) (.inl ⟨by rfl, fun U hU => by go_simp⟩) hS1 ?_
    refine wpAnyH_take (i := 4) (v := .slice (some ⟨gD, 0, none⟩) m d5) rfl (by kernel_rfl) (by kernel_rfl) (by kernel_rfl) (fun _ _ _ h => h) (.inl ⟨by rfl, fun U hU => by obtain ⟨N', H', T', h1⟩ := hU; have h3 := h1.p.e2; go_simp⟩) hS1 ?_
    refine wpAnyH_take (i := 5) (v := .int .i64 i) rfl (by kernel_rfl) (by kernel_rfl) (by kernel_rfl) (fun _ _ _ h => h) (.inl ⟨by rfl, fun U hU => by go_simp⟩) hS1 ?_
    refine wpAnyH_take (i := 6) (v := .int .i64 x) rfl (by kernel_rfl) (by kernel_rfl) (by kernel_rfl) (fun _ _ _ h => h) (.inl ⟨by rfl, fun U hU => by go_simp⟩) hS1 ?_
    refine wpAnyH_take (i := 7) (v := .pointer (some ⟨gA, x.toNat, none⟩)) rfl (by kernel_rfl) (by kernel_rfl) (by kernel_rfl) (fun _ _ _ h => h) (.inl ⟨by rfl, fun U hU => by go_simp⟩) hS1 ?_
    refine wpAnyH_all (rs := [8]) (by kernel_rfl) (by simp) ?_
    intro i' hi'
    simp only [List.mem_cons, List.not_mem_nil, or_false] at hi'
    subst hi'
    have cN1 := cN.1
    have cN2 := cN.2
    unfold wpOp
    go_simp
    left
    refine ⟨⟨_, _, _, S8⟩, ?_⟩
    refine wpAnyH_take (i := 9) (v := .pointer (some ⟨gD, i, none⟩)) rfl (by kernel_rfl) (by kernel_rfl) (by kernel_rfl) (fun _ _ _ h => h) (.inl ⟨by rfl, fun U hU => by go_simp⟩) ⟨_, _, _, S8⟩ ?_
    refine wpAnyH_all (rs := [10]) (by kernel_rfl) (by simp) ?_
    intro i' hi'
    simp only [List.mem_cons, List.not_mem_nil, or_false] at hi'
    subst hi'
    unfold wpOp
    go_simp
    left
    refine ⟨⟨_, _, _, S9⟩, by kernel_rfl, ?_⟩
    clear S7 S7d S8 S9 hS1 S6 S6d
    go_wp2
    exact bodyPost_ret (v := .tuple #[.agg #[.slice (some ⟨gA, 0, none⟩) n a5, .slice (some ⟨gB, 0, none⟩) m b5, .slice (some ⟨gD, 0, none⟩) m d5], .int .i64 0]) (by simp [results, Try.results12, go_sem, *]) rfl HF.out

end Go.Proofs.Ytiheeehegjfmgaa

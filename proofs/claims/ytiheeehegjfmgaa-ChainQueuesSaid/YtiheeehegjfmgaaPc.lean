/-
  The program's clone of chains; chains of the call's own, whose rows lie apart: what is written into one of them.
-/
import Derived.Test.YtiheeehegjfmgaaOx
import Derived.Test.YtiheeehegjfmgaaRf
namespace Go.Proofs.Ytiheeehegjfmgaa
open Go.RowKit

/-- Chains of the call's own, whose rows lie apart. -/
structure OwnK (w : World) (base : Nat) (A : Option Addr) (a : Nat) (B : Option Addr) (b : Nat) (D : Option Addr) (d : Nat) (next head tail : List Int) : Prop where
  c : OwnC w base A a B b D d next head tail
  ab : ∀ k, blkA A = some k → blkA B ≠ some k
  ad : ∀ k, blkA A = some k → blkA D ≠ some k
  bd : ∀ k, blkA B = some k → blkA D ≠ some k
section
variable {w w' : World} {base : Nat} {A B D : Option Addr} {a b d : Nat} {next head tail : List Int}
theorem OwnK.below (h : OwnK w base A a B b D d next head tail) (hb : Below w.heap.size w w') : OwnK w' base A a B b D d next head tail := ⟨h.c.below hb, h.ab, h.ad, h.bd⟩
theorem OwnI.other {E : TypeId} {g : Nat} {j : Nat} {c : Nat} {zs : List Int} (h : OwnI E w base A c zs) (hne : blkA A ≠ some g) (v : Value) : OwnI E (w.setCell ⟨g, j, none⟩ v) base A c zs :=
  ⟨h.1, h.2.1, ownsRow_setCell_other h.2.2 (fun e => hne (by rw [← blk_any A zs.length c]; exact e)) v⟩
theorem OwnI.lowb {E : TypeId} {c : Nat} {zs : List Int} (h : OwnI E w base A c zs) {g : Nat} (hg : g < base) : blkA A ≠ some g := fun e => by
  have := h.block (n := 0) (d := 0) g e
  omega
theorem OwnK.far (h : OwnK w base A a B b D d next head tail) {g j : Nat} (hg : g < base) (v : Value) : OwnK (w.setCell ⟨g, j, none⟩ v) base A a B b D d next head tail :=
  ⟨⟨h.c.x.other (h.c.x.lowb hg) v, h.c.h.other (h.c.h.lowb hg) v, h.c.t.other (h.c.t.lowb hg) v⟩, h.ab, h.ad, h.bd⟩
theorem OwnK.setN {g : Nat} (h : OwnK w base (some ⟨g, 0, none⟩) a B b D d next head tail) (j : Nat) {x : Int} (hx : Fit x) : OwnK (w.setCell ⟨g, j, none⟩ (.int .i64 x)) base (some ⟨g, 0, none⟩) a B b D d (next.set j x) head tail :=
  ⟨⟨h.c.x.set_ j hx, h.c.h.other (h.ab g rfl) _, h.c.t.other (h.ad g rfl) _⟩, h.ab, h.ad, h.bd⟩
theorem OwnK.setH {g : Nat} (h : OwnK w base A a (some ⟨g, 0, none⟩) b D d next head tail) (j : Nat) {x : Int} (hx : Fit x) : OwnK (w.setCell ⟨g, j, none⟩ (.int .i64 x)) base A a (some ⟨g, 0, none⟩) b D d next (head.set j x) tail :=
  ⟨⟨h.c.x.other (fun e => h.ab g e rfl) _, h.c.h.set_ j hx, h.c.t.other (h.bd g rfl) _⟩, h.ab, h.ad, h.bd⟩
theorem OwnK.setT {g : Nat} (h : OwnK w base A a B b (some ⟨g, 0, none⟩) d next head tail) (j : Nat) {x : Int} (hx : Fit x) : OwnK (w.setCell ⟨g, j, none⟩ (.int .i64 x)) base A a B b (some ⟨g, 0, none⟩) d next head (tail.set j x) :=
  ⟨⟨h.c.x.other (fun e => h.ad g e rfl) _, h.c.h.other (fun e => h.bd g e rfl) _, h.c.t.set_ j hx⟩, h.ab, h.ad, h.bd⟩
theorem OwnK.base_ {base' : Nat} (h : OwnK w base A a B b D d next head tail) (hb : base' ≤ base) : OwnK w base' A a B b D d next head tail := ⟨⟨h.c.x.base hb, h.c.h.base hb, h.c.t.base hb⟩, h.ab, h.ad, h.bd⟩
end
/-- A copy is handed back. -/
def NewK (next head tail : List Int) (w : World) (e : Ending) (w' : World) : Prop :=
  ∃ A a B b D d, e = .returned (.agg #[.slice A next.length a, .slice B head.length b, .slice D tail.length d]) ∧ OwnK w' w.heap.size A a B b D d next head tail ∧ Below w.heap.size w w'
theorem fresh_apart {w1 w2 : World} {E : TypeId} {base1 base2 : Nat} {A B : Option Addr} {a b : Nat} {xs ys : List Int} (hA : OwnI E w1 base1 A a xs) (hB : OwnI E w2 base2 B b ys) (h : w1.heap.size ≤ base2) : ∀ k, blkA A = some k → blkA B ≠ some k := by
  intro k h1 h2
  have h3 := (hA.que.block (n := 0) (d := 0) k h1).2
  have h4 := hB.block (n := 0) (d := 0) k h2
  omega

theorem below_grown1 {w w' : World} {t : TypeId} (h : (w.alloc (.cells #[] t)).grownBy w' (Value.slice (some ⟨w.heap.size, 0, none⟩) 0 0).ownBlock) : Below w.heap.size w w' :=
  ((Below.refl w.heap.size w).alloc (Nat.le_refl _) _).grown h (by simp) (by intro k hk; simp [Value.ownBlock] at hk; omega)

theorem cloneI_any (A : Option Addr) (n c : Nat) (gs : List Int) (w : World) (hp : Ints w A n gs) :
    Calls Try.prog 45 #[.slice A n c] w (NewI 3 gs w) := by
  have q : ∀ (w : World) (a : Option Addr) (n c n' c' : Nat), (binOp .eql 22 (.slice a n c) (.slice none n' c')).run Try.prog w = .ok (.bool a.isNone) w := fun w a n c n' c' => Lib.run_eql_slice_nil w _ _ a n c n' c' Try.underlying22
  have HP := Lib.hid hp
  have HN := Lib.hid hp.1
  have hn : n * 8 ≤ 140737488351232 := hp.2.1
  cases A with
  | none =>
    have h0 : n = 0 := by
      rcases Nat.eq_zero_or_pos n with h | h
      · exact h
      · obtain ⟨b, o, e, _⟩ := hp.2.2.2 h
        cases e
    have HG : Hid (gs = []) := Lib.hid (List.eq_nil_of_length_eq_zero (by rw [hp.1]; exact h0))
    clear hp
    subst h0
    go_enter Try.func45, Try.ntmps45
    go_wp2
    go_ret
    have := HG.out
    subst this
    exact ⟨none, 0, rfl, OwnI.nil_ _ _ _, Below.refl _ _⟩
  | some a =>
    clear hp
    go_enter Try.func45, Try.ntmps45
    go_wp2_with (at_builtin; refine wpList_append_ints _ rfl _ _ 22 rfl 3 Try.underlying22 Try.intInfo w.heap.size (some ⟨w.heap.size, 0, none⟩) 0 [] 0 rfl rfl (OwnI.made _ _ _) (some a) n c gs rfl (HP.out.alloc _) (by simp; omega) (by simp) ?_; intro A' c' w' ho hg; rw [List.nil_append] at ho ⊢; have HO := Lib.hid ho; have HB := Lib.hid (below_grown1 hg); clear ho hg)
    go_ret
    exact ⟨A', c', rfl, HO.out, HB.out⟩

set_option maxHeartbeats 2000000 in
theorem clone_any (A B D : Option Addr) (n a m b k d : Nat) (next head tail : List Int) (w : World) (hp : Chn w A n B m D k next head tail) :
    Calls Try.prog 32 #[.agg #[.slice A n a, .slice B m b, .slice D k d]] w (NewK next head tail w) := by
  have HP := Lib.hid hp
  have k1 := Bk.alloc (Bk.new w 24 #[.slice A n a, .slice B m b, .slice D k d]) (.cells #[.slice none 0 0, .slice none 0 0, .slice none 0 0] 24)
  have k2 := Bk.new (w.alloc (.cells #[.slice A n a, .slice B m b, .slice D k d] 24)) 24 #[.slice none 0 0, .slice none 0 0, .slice none 0 0]
  rw [size_alloc] at k2
  have hb0 : Below w.heap.size w ((w.alloc (.cells #[.slice A n a, .slice B m b, .slice D k d] 24)).alloc (.cells #[.slice none 0 0, .slice none 0 0, .slice none 0 0] 24)) := (((Below.refl w.heap.size w).alloc (Nat.le_refl _) _).alloc (by simp) _)
  clear hp
  go_enter Try.func32, Try.ntmps32
  go_upto_region 1 with fail
  refine wp_region_held (S := CopyC w (.slice A n a) (.slice B m b) (.slice D k d)) (by kernel_rfl) ?_
  change wpAnyH _ _ _ _ _ _ _ _ (World.drew _)
  replace k1 := k1.drew
  replace k2 := k2.drew
  replace hb0 := hb0.drew
  generalize ((w.alloc (.cells #[.slice A n a, .slice B m b, .slice D k d] 24)).alloc (.cells #[.slice none 0 0, .slice none 0 0, .slice none 0 0] 24)).drew = w0 at k1 k2 hb0 ⊢
  have h0 : CopyC w (.slice A n a) (.slice B m b) (.slice D k d) w0 := ⟨hb0, k1.e0, k1.e1, k1.e2⟩
  have hs0 := k2.lt
  refine wpAnyH_take (i := 0) (v := .pointer (some ⟨w.heap.size, 0, none⟩)) rfl (by kernel_rfl) (by kernel_rfl) (by kernel_rfl) (fun _ _ _ h => h) (.inl ⟨by rfl, fun U hU => by go_simp⟩) h0 ?_
  refine wpAnyH_take (i := 1) (v := .slice A n a) rfl (by kernel_rfl) (by kernel_rfl) (by kernel_rfl) (fun _ _ _ h => h) (.inl ⟨by rfl, fun U hU => by have h3 := hU.2.1; go_simp⟩) h0 ?_
  refine wpAnyH_take (i := 3) (v := .pointer (some ⟨w.heap.size, 1, none⟩)) rfl (by kernel_rfl) (by kernel_rfl) (by kernel_rfl) (fun _ _ _ h => h) (.inl ⟨by rfl, fun U hU => by go_simp⟩) h0 ?_
  refine wpAnyH_take (i := 4) (v := .slice B m b) rfl (by kernel_rfl) (by kernel_rfl) (by kernel_rfl) (fun _ _ _ h => h) (.inl ⟨by rfl, fun U hU => by have h3 := hU.2.2.1; go_simp⟩) h0 ?_
  refine wpAnyH_take (i := 6) (v := .pointer (some ⟨w.heap.size, 2, none⟩)) rfl (by kernel_rfl) (by kernel_rfl) (by kernel_rfl) (fun _ _ _ h => h) (.inl ⟨by rfl, fun U hU => by go_simp⟩) h0 ?_
  refine wpAnyH_take (i := 7) (v := .slice D k d) rfl (by kernel_rfl) (by kernel_rfl) (by kernel_rfl) (fun _ _ _ h => h) (.inl ⟨by rfl, fun U hU => by have h3 := hU.2.2.2; go_simp⟩) h0 ?_
  refine wpAnyH_all (rs := [2]) (by kernel_rfl) (by simp) ?_
  intro i hi
  simp only [List.mem_cons, List.not_mem_nil, or_false] at hi
  subst hi
  unfold wpOp
  go_simp
  left
  refine (cloneI_any A n a next _ (HP.out.below h0.1).x).mono ?_
  rintro e w1 ⟨A', a', rfl, ho1, hb1⟩
  have h1 : CopyC w (.slice A n a) (.slice B m b) (.slice D k d) w1 := ⟨below3 h0.1 hb1, (k1.below hb1 k1.lt).e0, (k1.below hb1 k1.lt).e1, (k1.below hb1 k1.lt).e2⟩
  replace k1 := k1.below hb1 k1.lt
  replace k2 := k2.below hb1 k2.lt
  refine ⟨h1, ?_⟩
  have O1 := Lib.hid ho1
  have hs1 := hb1.size
  clear ho1 hb1
  refine wpAnyH_all (rs := [5]) (by kernel_rfl) (by simp) ?_
  intro i hi
  simp only [List.mem_cons, List.not_mem_nil, or_false] at hi
  subst hi
  unfold wpOp
  go_simp
  left
  refine (cloneI_any B m b head _ (HP.out.below h1.1).h).mono ?_
  rintro e w2 ⟨B', b', rfl, ho2, hb2⟩
  have h2 : CopyC w (.slice A n a) (.slice B m b) (.slice D k d) w2 := ⟨below3 h1.1 hb2, (k1.below hb2 k1.lt).e0, (k1.below hb2 k1.lt).e1, (k1.below hb2 k1.lt).e2⟩
  replace k1 := k1.below hb2 k1.lt
  replace k2 := k2.below hb2 k2.lt
  refine ⟨h2, ?_⟩
  have HAB := Lib.hid (fresh_apart O1.out ho2 (Nat.le_refl _))
  have O2 := Lib.hid ho2
  have hs2 := hb2.size
  replace O1 := Lib.hid (O1.out.below hb2)
  clear ho2 hb2
  refine wpAnyH_all (rs := [8]) (by kernel_rfl) (by simp) ?_
  intro i hi
  simp only [List.mem_cons, List.not_mem_nil, or_false] at hi
  subst hi
  unfold wpOp
  go_simp
  left
  refine (cloneI_any D k d tail _ (HP.out.below h2.1).t).mono ?_
  rintro e w3 ⟨D', d', rfl, ho3, hb3⟩
  have h3 : CopyC w (.slice A n a) (.slice B m b) (.slice D k d) w3 := ⟨below3 h2.1 hb3, (k1.below hb3 k1.lt).e0, (k1.below hb3 k1.lt).e1, (k1.below hb3 k1.lt).e2⟩
  replace k1 := k1.below hb3 k1.lt
  replace k2 := k2.below hb3 k2.lt
  refine ⟨h3, ?_⟩
  have HAD := Lib.hid (fresh_apart O1.out ho3 (Nat.le_refl _))
  have HBD := Lib.hid (fresh_apart O2.out ho3 (Nat.le_refl _))
  have O3 := Lib.hid ho3
  have hs3 := hb3.size
  replace O1 := Lib.hid (O1.out.below hb3)
  replace O2 := Lib.hid (O2.out.below hb3)
  clear ho3 hb3
  have H3 : Hid (Below w.heap.size w (((w3.setCell ⟨w.heap.size + 1, 0, none⟩ (.slice A' next.length a')).setCell ⟨w.heap.size + 1, 1, none⟩ (.slice B' head.length b')).setCell ⟨w.heap.size + 1, 2, none⟩ (.slice D' tail.length d'))) := Lib.hid (((h3.set1 0 _).set1 1 _).set1 2 _).1
  have HN : Hid (OwnC (((w3.setCell ⟨w.heap.size + 1, 0, none⟩ (.slice A' next.length a')).setCell ⟨w.heap.size + 1, 1, none⟩ (.slice B' head.length b')).setCell ⟨w.heap.size + 1, 2, none⟩ (.slice D' tail.length d')) w.heap.size A' a' B' b' D' d' next head tail) :=
    Lib.hid ⟨(((O1.out.far (p := ⟨w.heap.size + 1, 0, none⟩) (by simp only []; omega) _).far (p := ⟨w.heap.size + 1, 1, none⟩) (by simp only []; omega) _).far (p := ⟨w.heap.size + 1, 2, none⟩) (by simp only []; omega) _).base (by omega), (((O2.out.far (p := ⟨w.heap.size + 1, 0, none⟩) (by simp only []; omega) _).far (p := ⟨w.heap.size + 1, 1, none⟩) (by simp only []; omega) _).far (p := ⟨w.heap.size + 1, 2, none⟩) (by simp only []; omega) _).base (by omega), (((O3.out.far (p := ⟨w.heap.size + 1, 0, none⟩) (by simp only []; omega) _).far (p := ⟨w.heap.size + 1, 1, none⟩) (by simp only []; omega) _).far (p := ⟨w.heap.size + 1, 2, none⟩) (by simp only []; omega) _).base (by omega)⟩
  clear O1 O2 O3 hs1 hs2 hs3 hs0 k1
  refine wpAnyH_take (i := 9) (v := .agg #[.slice A' next.length a', .slice B' head.length b', .slice D' tail.length d']) rfl (by kernel_rfl) (by kernel_rfl) (by kernel_rfl) (fun _ _ _ h => h) (.inl ⟨by rfl, fun U hU => by go_simp⟩) h3 ?_
  refine wpAnyH_all (rs := [10]) (by kernel_rfl) (by simp) ?_
  intro i hi
  simp only [List.mem_cons, List.not_mem_nil, or_false] at hi
  subst hi
  have c0 := k2.e0
  have c1 := k2.e1
  have c2 := k2.e2
  have f0 := k2.frozen 0
  have f1 := k2.frozen 1
  have f2 := k2.frozen 2
  unfold wpOp
  go_simp
  left
  refine ⟨((h3.set1 0 _).set1 1 _).set1 2 _, ?_⟩
  refine ⟨by kernel_rfl, ?_⟩
  clear h3 h2 h1 k2
  go_wp2
  exact bodyPost_ret (v := .agg #[.slice A' next.length a', .slice B' head.length b', .slice D' tail.length d']) (by simp [results, Try.results32, go_sem, *]) rfl ⟨A', a', B', b', D', d', rfl, ⟨HN.out, HAB.out, HAD.out, HBD.out⟩, H3.out⟩


end Go.Proofs.Ytiheeehegjfmgaa

/-
  Chains read as three lists; the document's copy of chains.
-/
import Derived.Test.YtiheeehegjfmgaaCa
import Derived.Deep.RegionHeld3
import Derived.OrdersHeld
import Derived.WalkSpells
import Derived.Deep.CutBlock
import Derived.Deep.DeepCutAuto
namespace Go.Proofs.Ytiheeehegjfmgaa
open Go.RowKit

/-- Chains read as three lists. -/
structure Chn (w : World) (A : Option Addr) (n : Nat) (B : Option Addr) (m : Nat) (D : Option Addr) (k : Nat) (next head tail : List Int) : Prop where
  x : Ints w A n next
  h : Ints w B m head
  t : Ints w D k tail
theorem Chn.below {w w' : World} {A B D : Option Addr} {n m k : Nat} {next head tail : List Int} (h : Chn w A n B m D k next head tail) (hb : Below w.heap.size w w') : Chn w' A n B m D k next head tail := ⟨h.x.below hb, h.h.below hb, h.t.below hb⟩
/-- Chains that the call has made itself. -/
structure OwnC (w : World) (base : Nat) (A : Option Addr) (a : Nat) (B : Option Addr) (b : Nat) (D : Option Addr) (d : Nat) (next head tail : List Int) : Prop where
  x : OwnI 3 w base A a next
  h : OwnI 3 w base B b head
  t : OwnI 3 w base D d tail
section
variable {w w' : World} {base : Nat} {A B D : Option Addr} {a b d : Nat} {next head tail : List Int}
theorem OwnC.chn (h : OwnC w base A a B b D d next head tail) : Chn w A next.length B head.length D tail.length next head tail := ⟨h.x.ints, h.h.ints, h.t.ints⟩
theorem OwnC.below (h : OwnC w base A a B b D d next head tail) (hb : Below w.heap.size w w') : OwnC w' base A a B b D d next head tail := ⟨h.x.below hb, h.h.below hb, h.t.below hb⟩
end
theorem OwnC.base {w : World} {base base' : Nat} {A B D : Option Addr} {a b d : Nat} {next head tail : List Int} (h : OwnC w base A a B b D d next head tail) (hb : base' ≤ base) : OwnC w base' A a B b D d next head tail := ⟨h.x.base hb, h.h.base hb, h.t.base hb⟩
theorem Bk.e0 {w : World} {g : Nat} {t : TypeId} {x y z : Value} (h : Bk w g t #[x, y, z]) : w.cell? ⟨g, 0, none⟩ = some x := h.cell 0
theorem Bk.e1 {w : World} {g : Nat} {t : TypeId} {x y z : Value} (h : Bk w g t #[x, y, z]) : w.cell? ⟨g, 1, none⟩ = some y := h.cell 1
theorem Bk.e2 {w : World} {g : Nat} {t : TypeId} {x y z : Value} (h : Bk w g t #[x, y, z]) : w.cell? ⟨g, 2, none⟩ = some z := h.cell 2
/-- New chains are handed back. -/
def NewC (next head tail : List Int) (w : World) (e : Ending) (w' : World) : Prop :=
  ∃ A a B b D d, e = .returned (.agg #[.slice A next.length a, .slice B head.length b, .slice D tail.length d]) ∧ OwnC w' w.heap.size A a B b D d next head tail ∧ Below w.heap.size w w'

theorem append_nilI (w : World) (B : Option Addr) (m d : Nat) (ys : List Int) (hy : Ints w B m ys) :
    ∃ A' c' w', (Builtin.append_ #[22, 22] 22 #[.slice none 0 0, .slice B m d]).run Try.prog w = .ok (.slice A' ys.length c') w' ∧ OwnI 3 w' w.heap.size A' c' ys ∧ Below w.heap.size w w' := by
  obtain ⟨v', w', hr, A', c', rfl, ho, hg⟩ := run_append_ints (P := Try.prog) w 22 22 3 Try.underlying22 Try.intInfo w.heap.size none 0 [] (OwnI.nil_ _ _ _) B m d ys hy (by have := hy.2.1; simpa using this) (Nat.le_refl _)
  rw [List.nil_append] at ho hr
  exact ⟨A', c', w', hr, ho, (Below.refl _ _).grown hg (Nat.le_refl _) (by simp [Value.ownBlock])⟩

/-- What stays while a copy is made. -/
def CopyC (w : World) (x y z : Value) (U : World) : Prop :=
  Below w.heap.size w U ∧ U.cell? ⟨w.heap.size, 0, none⟩ = some x ∧ U.cell? ⟨w.heap.size, 1, none⟩ = some y ∧ U.cell? ⟨w.heap.size, 2, none⟩ = some z
theorem CopyC.set1 {w U : World} {x y z : Value} (h : CopyC w x y z U) (i : Nat) (v : Value) : CopyC w x y z (U.setCell ⟨w.heap.size + 1, i, none⟩ v) := by
  refine ⟨h.1.setCell (p := ⟨w.heap.size + 1, i, none⟩) (by simp) v, ?_, ?_, ?_⟩
  · rw [World.cell?_setCell_other _ _ _ _ (by simp)]; exact h.2.1
  · rw [World.cell?_setCell_other _ _ _ _ (by simp)]; exact h.2.2.1
  · rw [World.cell?_setCell_other _ _ _ _ (by simp)]; exact h.2.2.2

set_option maxHeartbeats 2000000 in
theorem rcopy_any (A B D : Option Addr) (n a m b k d : Nat) (next head tail : List Int) (w : World) (hp : Chn w A n B m D k next head tail) :
    Calls Try.prog 11 #[.agg #[.slice A n a, .slice B m b, .slice D k d]] w (NewC next head tail w) := by
  have HP := Lib.hid hp
  have k1 := Bk.alloc (Bk.new w 24 #[.slice A n a, .slice B m b, .slice D k d]) (.cells #[.slice none 0 0, .slice none 0 0, .slice none 0 0] 24)
  have k2 := Bk.new (w.alloc (.cells #[.slice A n a, .slice B m b, .slice D k d] 24)) 24 #[.slice none 0 0, .slice none 0 0, .slice none 0 0]
  rw [size_alloc] at k2
  have hb0 : Below w.heap.size w ((w.alloc (.cells #[.slice A n a, .slice B m b, .slice D k d] 24)).alloc (.cells #[.slice none 0 0, .slice none 0 0, .slice none 0 0] 24)) := (((Below.refl w.heap.size w).alloc (Nat.le_refl _) _).alloc (by simp) _)
  clear hp
  go_enter Try.func11, Try.ntmps11
  go_upto_region 1 with fail
  refine wp_region_held (S := CopyC w (.slice A n a) (.slice B m b) (.slice D k d)) (by kernel_rfl) ?_
  change wpAnyH _ _ _ _ _ _ _ _ (World.drew _)
  replace k1 := k1.drew
  replace k2 := k2.drew
  replace hb0 := hb0.drew
  generalize ((w.alloc (.cells #[.slice A n a, .slice B m b, .slice D k d] 24)).alloc (.cells #[.slice none 0 0, .slice none 0 0, .slice none 0 0] 24)).drew = w0 at k1 k2 hb0 ⊢
  have h0 : CopyC w (.slice A n a) (.slice B m b) (.slice D k d) w0 := ⟨hb0, k1.e0, k1.e1, k1.e2⟩
  have hs0 := k2.lt
  refine wpAnyH_take (i := 0) (v := .pointer (some ⟨w.heap.size, 0, none⟩)) rfl (by kernel_rfl) (by kernel_rfl) (by kernel_rfl) (fun _ _ _ h => h) (.inl ⟨by rfl, fun U hU => by go_simp⟩) h0 ?_
  refine wpAnyH_take (i := 1) (v := .slice A n a) rfl (by kernel_rfl) (by kernel_rfl) (by kernel_rfl) (fun _ _ _ h => h) (.inl ⟨by rfl, fun U hU => by have h3 := hU.2.1; go_simp⟩) h0 ?_
  refine wpAnyH_take (i := 3) (v := .pointer (some ⟨w.heap.size, 1, none⟩)) rfl (by kernel_rfl) (by kernel_rfl) (by kernel_rfl) (fun _ _ _ h => h) (.inl ⟨by rfl, fun U hU => by go_simp⟩) h0 ?_
  refine wpAnyH_take (i := 4) (v := .slice B m b) rfl (by kernel_rfl) (by kernel_rfl) (by kernel_rfl) (fun _ _ _ h => h) (.inl ⟨by rfl, fun U hU => by have h3 := hU.2.2.1; go_simp⟩) h0 ?_
  refine wpAnyH_take (i := 6) (v := .pointer (some ⟨w.heap.size, 2, none⟩)) rfl (by kernel_rfl) (by kernel_rfl) (by kernel_rfl) (fun _ _ _ h => h) (.inl ⟨by rfl, fun U hU => by go_simp⟩) h0 ?_
  refine wpAnyH_take (i := 7) (v := .slice D k d) rfl (by kernel_rfl) (by kernel_rfl) (by kernel_rfl) (fun _ _ _ h => h) (.inl ⟨by rfl, fun U hU => by have h3 := hU.2.2.2; go_simp⟩) h0 ?_
  refine wpAnyH_all (rs := [2]) (by kernel_rfl) (by simp) ?_
  intro i hi
  simp only [List.mem_cons, List.not_mem_nil, or_false] at hi
  subst hi
  obtain ⟨A', a', w1, hr1, ho1, hb1⟩ := append_nilI w0 A n a next (HP.out.below h0.1).x
  refine wpOp_append (.const (.slice none 0 0)) (.tmp 4) 22 (.slice A' next.length a') (.slice none 0 0) (.slice A n a) rfl (by kernel_rfl) rfl (by kernel_rfl) (by kernel_rfl) hr1 ?_
  have h1 : CopyC w (.slice A n a) (.slice B m b) (.slice D k d) w1 := ⟨below3 h0.1 hb1, (k1.below hb1 k1.lt).e0, (k1.below hb1 k1.lt).e1, (k1.below hb1 k1.lt).e2⟩
  replace k1 := k1.below hb1 k1.lt
  replace k2 := k2.below hb1 k2.lt
  refine ⟨h1, ?_⟩
  have O1 := Lib.hid ho1
  have hs1 := hb1.size
  clear ho1 hb1 hr1
  refine wpAnyH_all (rs := [5]) (by kernel_rfl) (by simp) ?_
  intro i hi
  simp only [List.mem_cons, List.not_mem_nil, or_false] at hi
  subst hi
  obtain ⟨B', b', w2, hr2, ho2, hb2⟩ := append_nilI w1 B m b head (HP.out.below h1.1).h
  refine wpOp_append (.const (.slice none 0 0)) (.tmp 7) 22 (.slice B' head.length b') (.slice none 0 0) (.slice B m b) rfl (by kernel_rfl) rfl (by kernel_rfl) (by kernel_rfl) hr2 ?_
  have h2 : CopyC w (.slice A n a) (.slice B m b) (.slice D k d) w2 := ⟨below3 h1.1 hb2, (k1.below hb2 k1.lt).e0, (k1.below hb2 k1.lt).e1, (k1.below hb2 k1.lt).e2⟩
  replace k1 := k1.below hb2 k1.lt
  replace k2 := k2.below hb2 k2.lt
  refine ⟨h2, ?_⟩
  have O2 := Lib.hid ho2
  have hs2 := hb2.size
  replace O1 := Lib.hid (O1.out.below hb2)
  clear ho2 hb2 hr2
  refine wpAnyH_all (rs := [8]) (by kernel_rfl) (by simp) ?_
  intro i hi
  simp only [List.mem_cons, List.not_mem_nil, or_false] at hi
  subst hi
  obtain ⟨D', d', w3, hr3, ho3, hb3⟩ := append_nilI w2 D k d tail (HP.out.below h2.1).t
  refine wpOp_append (.const (.slice none 0 0)) (.tmp 10) 22 (.slice D' tail.length d') (.slice none 0 0) (.slice D k d) rfl (by kernel_rfl) rfl (by kernel_rfl) (by kernel_rfl) hr3 ?_
  have h3 : CopyC w (.slice A n a) (.slice B m b) (.slice D k d) w3 := ⟨below3 h2.1 hb3, (k1.below hb3 k1.lt).e0, (k1.below hb3 k1.lt).e1, (k1.below hb3 k1.lt).e2⟩
  replace k1 := k1.below hb3 k1.lt
  replace k2 := k2.below hb3 k2.lt
  refine ⟨h3, ?_⟩
  have O3 := Lib.hid ho3
  have hs3 := hb3.size
  replace O1 := Lib.hid (O1.out.below hb3)
  replace O2 := Lib.hid (O2.out.below hb3)
  clear ho3 hb3 hr3
  have H3 : Hid (Below w.heap.size w (((w3.setCell ⟨w.heap.size + 1, 0, none⟩ (.slice A' next.length a')).setCell ⟨w.heap.size + 1, 1, none⟩ (.slice B' head.length b')).setCell ⟨w.heap.size + 1, 2, none⟩ (.slice D' tail.length d'))) := Lib.hid (((h3.set1 0 _).set1 1 _).set1 2 _).1
  have HN : Hid (OwnC (((w3.setCell ⟨w.heap.size + 1, 0, none⟩ (.slice A' next.length a')).setCell ⟨w.heap.size + 1, 1, none⟩ (.slice B' head.length b')).setCell ⟨w.heap.size + 1, 2, none⟩ (.slice D' tail.length d')) w.heap.size A' a' B' b' D' d' next head tail) :=
    Lib.hid ⟨(((O1.out.far (p := ⟨w.heap.size + 1, 0, none⟩) (by simp only []; omega) _).far (p := ⟨w.heap.size + 1, 1, none⟩) (by simp only []; omega) _).far (p := ⟨w.heap.size + 1, 2, none⟩) (by simp only []; omega) _).base (by omega), (((O2.out.far (p := ⟨w.heap.size + 1, 0, none⟩) (by simp only []; omega) _).far (p := ⟨w.heap.size + 1, 1, none⟩) (by simp only []; omega) _).far (p := ⟨w.heap.size + 1, 2, none⟩) (by simp only []; omega) _).base (by omega), (((O3.out.far (p := ⟨w.heap.size + 1, 0, none⟩) (by simp only []; omega) _).far (p := ⟨w.heap.size + 1, 1, none⟩) (by simp only []; omega) _).far (p := ⟨w.heap.size + 1, 2, none⟩) (by simp only []; omega) _).base (by omega)⟩
  clear O1 O2 O3 hs1 hs2 hs3 hs0 k1
  refine wpAnyH_take (i := 9) (v := .agg #[.slice A' next.length a', .slice B' head.length b', .slice D' tail.length d']) rfl (by kernel_rfl) (by kernel_rfl) (by kernel_rfl) (fun _ _ _ h => h) (.inl ⟨by rfl, fun U hU => by go_simp⟩) h3 ?_
  refine wpAnyH_all (rs := [10]) (by kernel_rfl) (by simp) ?_
  intro i hi
  simp only [List.mem_cons, List.not_mem_nil, or_false] at hi
  subst hi
  have c0 := k2.e0
  have c1 := k2.e1
  have c2 := k2.e2
  have f0 := k2.frozen 0
  have f1 := k2.frozen 1
  have f2 := k2.frozen 2
  unfold wpOp
  go_simp
  left
  refine ⟨((h3.set1 0 _).set1 1 _).set1 2 _, ?_⟩
  refine ⟨by kernel_rfl, ?_⟩
  clear h3 h2 h1 k2
  go_wp2
  exact bodyPost_ret (v := .agg #[.slice A' next.length a', .slice B' head.length b', .slice D' tail.length d']) (by simp [results, Try.results11, go_sem, *]) rfl ⟨A', a', B', b', D', d', rfl, HN.out, H3.out⟩

end Go.Proofs.Ytiheeehegjfmgaa

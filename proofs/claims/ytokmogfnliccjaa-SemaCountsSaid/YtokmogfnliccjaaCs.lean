/-
  For the law SemaCounts: what lies there between two steps: a semaphore, and the line that the law keeps beside it.
-/
import Derived.Test.YtokmogfnliccjaaMs
import Derived.Test.YtokmogfnliccjaaPRowM
import Derived.Test.YtokmogfnliccjaaQue
namespace Go.Proofs.Ytokmogfnliccjaa
open Go.RowKit

theorem Ints.grown {w w' : World} {A : Option Addr} {n : Nat} {zs : List Int} (h : Ints w A n zs) {row : Option Nat} (hg : w.grownBy w' row) (hne : 0 < n → ∀ b o, A = some ⟨b, o, none⟩ → some b ≠ row) : Ints w' A n zs :=
  ⟨h.1, h.2.1, h.2.2.1, fun hn => by
    obtain ⟨b, o, e, hb, hc⟩ := h.2.2.2 hn
    have hk := hg.block b hb (hne hn b o e)
    refine ⟨b, o, e, Nat.lt_of_lt_of_le hb hg.size, fun j hj => ?_⟩
    rw [← hc j hj]
    simp [World.cell?, hk]⟩
theorem SV.grown {w w' : World} {g : Nat} {z : Int} {A : Option Addr} {n c : Nat} {l : List Int} (h : SV w g z A n c l) {row : Option Nat} (hg : w.grownBy w' row) (h1 : some g ≠ row) (h2 : 0 < n → ∀ b o, A = some ⟨b, o, none⟩ → some b ≠ row) : SV w' g z A n c l :=
  ⟨h.k.grown hg h1, h.s.f, h.s.x.grown hg h2, h.s.c⟩

structure StC (B : Nat) (w : World) (g : Nat) (z : Int) (As : Option Addr) (q cs : Nat) (ls : List Int) (Al : Option Addr) (m cl : Nat) (ll : List Int) : Prop where
  s : SV w g z As q cs ls
  l : OwnQ 2 w B Al cl ll
  lm : ll.length = m
  ap : 0 < q → ∀ b o, As = some ⟨b, o, none⟩ → (Value.slice Al 0 0).ownBlock ≠ some b
  g : B ≤ g
section
variable {B : Nat} {w w' : World} {g : Nat} {z : Int} {As : Option Addr} {q cs : Nat} {ls : List Int} {Al : Option Addr} {m cl : Nat} {ll : List Int}
theorem StC.below (h : StC B w g z As q cs ls Al m cl ll) (hb : Below w.heap.size w w') : StC B w' g z As q cs ls Al m cl ll := ⟨h.s.below hb, h.l.below hb, h.lm, h.ap, h.g⟩
theorem sem_ne_int : (2 : TypeId) ≠ 24 := by decide
/-- The line does not lie where the semaphore's variable does. -/
theorem StC.gne (h : StC B w g z As q cs ls Al m cl ll) {n d : Nat} : (Value.slice Al n d).ownBlock ≠ some g := by
  intro e
  obtain ⟨ck, hk⟩ := h.l.type e
  have h2 := h.s.k
  unfold Bk at hk h2
  rw [hk] at h2
  injection h2 with h2
  injection h2 with _ h3
  exact sem_ne_int h3
/-- The semaphore is another one. -/
theorem StC.put (h : StC B w g z As q cs ls Al m cl ll) {y : Int} {A3 : Option Addr} {n3 c3 : Nat} {l3 : List Int} (hs : SemW w y A3 n3 c3 l3) (hne : ∀ b o, A3 = some ⟨b, o, none⟩ → 0 < n3 → b ≠ g) (hap : 0 < n3 → ∀ b o, A3 = some ⟨b, o, none⟩ → (Value.slice Al 0 0).ownBlock ≠ some b) :
    StC B ((w.setCell ⟨g, 0, none⟩ (.int .i64 y)).setCell ⟨g, 1, none⟩ (.slice A3 n3 c3)) g y A3 n3 c3 l3 Al m cl ll :=
  ⟨h.s.set_ hs hne, (h.l.setOther (p := ⟨g, 0, none⟩) (.inr (by exact h.gne)) _).setOther (p := ⟨g, 1, none⟩) (.inr (by exact h.gne)) _, h.lm, hap, h.g⟩
/-- A row that a call has just made lies apart from the line. -/
theorem StC.apart (h : StC B w g z As q cs ls Al m cl ll) {W : World} {A3 : Option Addr} {c3 : Nat} {l3 : List Int} (ho : OwnI 2 W w.heap.size A3 c3 l3) : ∀ b o, A3 = some ⟨b, o, none⟩ → (Value.slice Al 0 0).ownBlock ≠ some b := by
  intro b o e e2
  have h1 := ho.block (n := 0) (d := 0) b (by rw [e]; rfl)
  have h2 := (h.l.block b e2).2
  omega
/-- The line is longer by one. -/
theorem StC.app (h : StC B w g z As q cs ls Al m cl ll) {x : Int} {A' : Option Addr} {c' : Nat} (ho : OwnQ 2 w' B A' c' (ll ++ [x])) (hg : w.grownBy w' (Value.slice Al m cl).ownBlock)
    (hk : ∀ k, (Value.slice A' 0 0).ownBlock = some k → (Value.slice Al 0 0).ownBlock = some k ∨ w.heap.size ≤ k) : StC B w' g z As q cs ls A' (m + 1) c' (ll ++ [x]) := by
  have e0 : (Value.slice Al m cl).ownBlock = (Value.slice Al 0 0).ownBlock := by cases Al <;> rfl
  refine ⟨h.s.grown hg (by intro e; exact h.gne e.symm) (fun hq b o e e2 => h.ap hq b o e (by rw [← e0]; exact e2.symm)), ho, by rw [List.length_append, h.lm]; rfl, fun hq b o e e2 => ?_, h.g⟩
  rcases hk b e2 with e3 | e3
  · exact h.ap hq b o e e3
  · obtain ⟨b', o', e4, hb, _⟩ := h.s.s.x.2.2.2 hq
    rw [e] at e4
    injection e4 with e4
    injection e4 with e5 _ _
    omega
/-- The line without its first one. -/
theorem StC.tail (h : StC B w g z As q cs ls Al m cl ll) {gl o o' : Nat} (hA : Al = some ⟨gl, o, none⟩) (hm : 0 < m) (ho : o' = o + 1 ∨ (cl = 1 ∧ o' = o)) : StC B w g z As q cs ls (some ⟨gl, o', none⟩) (m - 1) (cl - 1) (ll.drop 1) := by
  subst hA
  exact ⟨h.s, h.l.tail (by rw [h.lm]; exact hm) ho, by rw [List.length_drop, h.lm], h.ap, h.g⟩
/-- The line is another one, just made. -/
theorem StC.line (h : StC B w g z As q cs ls Al m cl ll) (hb : Below w.heap.size w w') {A' : Option Addr} {c' : Nat} {l' : List Int} (ho : OwnI 2 w' w.heap.size A' c' l') (hB : B ≤ w.heap.size) : StC B w' g z As q cs ls A' l'.length c' l' := by
  refine ⟨h.s.below hb, ho.que.base_ hB, rfl, fun hq b o e e2 => ?_, h.g⟩
  have h1 := ho.block (n := 0) (d := 0) b e2
  obtain ⟨b', o', e4, hlt, _⟩ := h.s.s.x.2.2.2 hq
  rw [e] at e4
  injection e4 with e4
  injection e4 with e5 _ _
  omega
end

/-- What is done, in a box of its own. -/
structure OB (w : World) (g : Nat) (k y : Int) : Prop where
  k : Bk w g 40 #[.int .i64 k, .int .i64 y]
theorem OB.below {w w' : World} {g : Nat} {k y : Int} (h : OB w g k y) (hb : Below w.heap.size w w') : OB w' g k y := ⟨h.k.below hb h.k.lt⟩

/-- Three kinds. -/
theorem kinds3 (k : Int) : k.tmod 3 = 0 ∨ k.tmod 3 = 1 ∨ ((k.tmod 3 == 0) = false ∧ (k.tmod 3 == 1) = false) := by
  by_cases h0 : k.tmod 3 = 0
  · exact .inl h0
  · by_cases h1 : k.tmod 3 = 1
    · exact .inr (.inl h1)
    · exact .inr (.inr ⟨by simpa using h0, by simpa using h1⟩)

end Go.Proofs.Ytokmogfnliccjaa

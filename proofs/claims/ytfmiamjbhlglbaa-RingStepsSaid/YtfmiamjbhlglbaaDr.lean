/-
  The contracts of what every access of a hand leans on: the one access of cells, the end of a hand if so.
-/
import Derived.Test.YtfmiamjbhlglbaaDo
import Derived.StillTailTactics
import Derived.Test.YtfmiamjbhlglbaaHr
namespace Go.Proofs.Ytfmiamjbhlglbaa
open Go.RowKit

/-- A hand in a deque of cells, as it lies. -/
def rc (h : Hd) (base cap : Nat) (S : Value) : Array Value := #[.int .i64 h.kind, .int .i64 h.pc, .int .i64 h.v, .int .i64 h.t, .int .i64 h.b, .bool h.won, .int .i64 h.state, .int .i64 base, .int .i64 cap, S]
/-- Block g is a hand in a deque of cells, and the cells lie elsewhere. -/
structure Rch (w : World) (g : Nat) (h : Hd) (base cap : Nat) (ms : List Int) (A : Option Addr) (c : Nat) : Prop where
  bk : Bk w g 56 (rc h base cap (.slice A ms.length c))
  ints : Ints w A ms.length ms
  ne : ∀ a, A = some a → a.block ≠ g
/-- .. and these are the call's own. -/
structure Rco (w : World) (g : Nat) (h : Hd) (base cap : Nat) (ms : List Int) (A : Option Addr) (c : Nat) : Prop extends Rch w g h base cap ms A c where
  own : OwnI 2 w g A c ms
/-- A method that answers an error's number: it is y, and the hand is so behind it. -/
def Met (g : Nat) (y : Int) (h : Hd) (base cap : Nat) (ms : List Int) (w : World) (e : Ending) (w' : World) : Prop :=
  e = .returned (.int .i64 y) ∧ w.grownBy w' (some g) ∧ ∃ A c, Rco w' g h base cap ms A c
/-- .. that has not touched the cells. -/
def MetR (g : Nat) (y : Int) (h : Hd) (base cap : Nat) (ms : List Int) (w : World) (e : Ending) (w' : World) : Prop :=
  e = .returned (.int .i64 y) ∧ w.grownBy w' (some g) ∧ ∃ A c, Rch w' g h base cap ms A c
/-- .. that tells a number too. -/
def Met2 (g : Nat) (v : Value) (y : Int) (h : Hd) (base cap : Nat) (ms : List Int) (w : World) (e : Ending) (w' : World) : Prop :=
  e = .returned (.tuple #[v, .int .i64 y]) ∧ w.grownBy w' (some g) ∧ ∃ A c, Rco w' g h base cap ms A c
def Met2R (g : Nat) (v : Value) (y : Int) (h : Hd) (base cap : Nat) (ms : List Int) (w : World) (e : Ending) (w' : World) : Prop :=
  e = .returned (.tuple #[v, .int .i64 y]) ∧ w.grownBy w' (some g) ∧ ∃ A c, Rch w' g h base cap ms A c

theorem Below.gb {w w' : World} {row : Option Nat} (h : Below w.heap.size w w') : w.grownBy w' row := ⟨h.os, h.tape, h.output, h.size, fun k hk _ => h.block k hk⟩
theorem Ints.far {w : World} {A : Option Addr} {n : Nat} {zs : List Int} (h : Ints w A n zs) {g : Nat} (hne : ∀ a, A = some a → a.block ≠ g) (i : Nat) (u : Value) : Ints (w.setCell ⟨g, i, none⟩ u) A n zs :=
  ⟨h.1, h.2.1, h.2.2.1, fun hn => by
    obtain ⟨b, o, e, hb, hc⟩ := h.2.2.2 hn
    exact ⟨b, o, e, by simpa [World.setCell] using hb, fun j hj => (World.cell?_setCell_other w _ _ _ (by rintro e2; injection e2 with e3 _ _; exact hne _ e e3.symm)).trans (hc j hj)⟩⟩
theorem Rch.set {w : World} {g : Nat} {h h' : Hd} {base cap : Nat} {ms : List Int} {A : Option Addr} {c : Nat} (r : Rch w g h base cap ms A c) (i : Nat) (u : Value) (e : (rc h base cap (.slice A ms.length c)).setIfInBounds i u = rc h' base cap (.slice A ms.length c)) :
    Rch (w.setCell ⟨g, i, none⟩ u) g h' base cap ms A c := ⟨e ▸ r.bk.set_ i u, r.ints.far r.ne i u, r.ne⟩
theorem Rch.drew {w : World} {g : Nat} {h : Hd} {base cap : Nat} {ms : List Int} {A : Option Addr} {c : Nat} (r : Rch w g h base cap ms A c) : Rch w.drew g h base cap ms A c := ⟨r.bk.drew, r.ints.below (Below.refl _ _).drew, r.ne⟩

theorem OwnI.aside {E : TypeId} {w : World} {base g : Nat} {A : Option Addr} {c : Nat} {zs : List Int} (h : OwnI E w base A c zs) (hne : ∀ a, A = some a → a.block ≠ g) (i : Nat) (u : Value) : OwnI E (w.setCell ⟨g, i, none⟩ u) base A c zs :=
  ⟨h.1, h.2.1, ownsRow_setCell_other h.2.2 (by
    cases A with
    | none => simp [Value.ownBlock]
    | some a => simpa [Value.ownBlock] using hne a rfl) u⟩
theorem Rco.set {w : World} {g : Nat} {h h' : Hd} {base cap : Nat} {ms : List Int} {A : Option Addr} {c : Nat} (r : Rco w g h base cap ms A c) (i : Nat) (u : Value) (e : (rc h base cap (.slice A ms.length c)).setIfInBounds i u = rc h' base cap (.slice A ms.length c)) :
    Rco (w.setCell ⟨g, i, none⟩ u) g h' base cap ms A c := ⟨r.toRch.set i u e, r.own.aside r.ne i u⟩
theorem Rco.drew {w : World} {g : Nat} {h : Hd} {base cap : Nat} {ms : List Int} {A : Option Addr} {c : Nat} (r : Rco w g h base cap ms A c) : Rco w.drew g h base cap ms A c := ⟨r.toRch.drew, r.own.below (Below.refl _ _).drew⟩
theorem Rch.below {w w' : World} {g : Nat} {h : Hd} {base cap : Nat} {ms : List Int} {A : Option Addr} {c : Nat} (r : Rch w g h base cap ms A c) (hb : Below w.heap.size w w') : Rch w' g h base cap ms A c := ⟨r.bk.below hb r.bk.lt, r.ints.below hb, r.ne⟩
theorem Rco.below {w w' : World} {g : Nat} {h : Hd} {base cap : Nat} {ms : List Int} {A : Option Addr} {c : Nat} (r : Rco w g h base cap ms A c) (hb : Below w.heap.size w w') : Rco w' g h base cap ms A c := ⟨r.toRch.below hb, r.own.below hb⟩

theorem endif_any (w : World) (g : Nat) (h : Hd) (base cap : Nat) (ms : List Int) (A : Option Addr) (c : Nat) (hR : Rch w g h base cap ms A c) (b : Bool) (s : Int) :
    Calls Try.prog 54 #[.pointer (some ⟨g, 0, none⟩), .bool b, .int .i64 s] w (fun e w' => e = .returned (.tuple #[]) ∧ w.grownBy w' (some g) ∧ Rch w' g { h with state := if b then s else h.state } base cap ms A c) := by
  have h6 : _ = some (Value.int .i64 h.state) := hR.bk.cell 6
  have f6 := hR.bk.frozen 6
  have hlt := hR.bk.lt
  cases b
  · have HR := Lib.hid hR
    clear hR h6 f6 hlt
    go_enter Try.func54, Try.ntmps54
    go_wp2
    exact bodyPost_end (results_none rfl _ _ _) rfl ⟨rfl, World.grownBy.refl _ _, HR.out⟩
  · have HR := Lib.hid (hR.set (h' := { h with state := s }) 6 (.int .i64 s) rfl)
    clear hR
    go_enter Try.func54, Try.ntmps54
    go_wp2
    exact bodyPost_end (results_none rfl _ _ _) rfl ⟨rfl, grown_set _, HR.out⟩

theorem endif_own (w : World) (g : Nat) (h : Hd) (base cap : Nat) (ms : List Int) (A : Option Addr) (c : Nat) (hR : Rco w g h base cap ms A c) (b : Bool) (s : Int) :
    Calls Try.prog 54 #[.pointer (some ⟨g, 0, none⟩), .bool b, .int .i64 s] w (fun e w' => e = .returned (.tuple #[]) ∧ w.grownBy w' (some g) ∧ Rco w' g { h with state := if b then s else h.state } base cap ms A c) := by
  have h6 : _ = some (Value.int .i64 h.state) := hR.bk.cell 6
  have f6 := hR.bk.frozen 6
  have hlt := hR.bk.lt
  cases b
  · have HR := Lib.hid hR
    clear hR h6 f6 hlt
    go_enter Try.func54, Try.ntmps54
    go_wp2
    exact bodyPost_end (results_none rfl _ _ _) rfl ⟨rfl, World.grownBy.refl _ _, HR.out⟩
  · have HR := Lib.hid (hR.set (h' := { h with state := s }) 6 (.int .i64 s) rfl)
    clear hR
    go_enter Try.func54, Try.ntmps54
    go_wp2
    exact bodyPost_end (results_none rfl _ _ _) rfl ⟨rfl, grown_set _, HR.out⟩

set_option maxHeartbeats 400000 in
theorem mdo_any (w : World) (g : Nat) (h : Hd) (base cap : Nat) (ms : List Int) (A : Option Addr) (c : Nat) (hR : Rch w g h base cap ms A c) (hle : ms.length ≤ 65536) (at_ : Nat) (hj : base + at_ < ms.length) (k a b x : Int) (ms' : List Int) (hk : AccK ms (base + at_) k a b ms' x) :
    Calls Try.prog 58 #[.pointer (some ⟨g, 0, none⟩), .int .i64 k, .int .i64 at_, .int .i64 a, .int .i64 b] w (Met2 g (.int .i64 x) 0 h base cap ms' w) := by
  have c7 : _ = some (Value.int .i64 base) := hR.bk.cell 7
  have c9 : _ = some (Value.slice A ms.length c) := hR.bk.cell 9
  have hlt := hR.bk.lt
  have hD := do_k A ms.length c ms ms' k a b x w.drew hR.drew.ints hle (base + at_) hj hk
  simp only [Int.natCast_add] at hD
  have HD := Lib.hid hD
  have HK := Lib.hid hk.len
  have HR := Lib.hid hR.drew
  have HJ := Lib.hid hj
  clear hR hk hj hD
  go_enter Try.func58, Try.ntmps58
  go_wp2
  refine wp_region_held (S := fun U => Below w.drew.heap.size w.drew U) (by kernel_rfl) ?_
  change wpAnyH _ _ _ _ _ _ _ _ (World.drew _)
  have hS0 := Below.refl w.drew.heap.size w.drew
  refine take_at (i := 0) (d := 16) (v := .pointer (some ⟨g, 0, none⟩)) rfl rfl (by kernel_rfl) (by kernel_rfl) (by kernel_rfl) (fun _ _ _ h => h) (.inl ⟨by kernel_rfl, fun U hU => by go_simp⟩) hS0 ?_
  simp only [Act.put, List.setIfInBounds_toArray, List.set_cons_zero, List.set_cons_succ]
  refine take_at (i := 1) (d := 17) (v := .pointer (some ⟨g, 0, none⟩)) rfl rfl (by kernel_rfl) (by kernel_rfl) (by kernel_rfl) (fun _ _ _ h => h) (.inl ⟨by kernel_rfl, fun U hU => by go_simp⟩) hS0 ?_
  simp only [Act.put, List.setIfInBounds_toArray, List.set_cons_zero, List.set_cons_succ]
  refine take_at (i := 2) (d := 18) (v := .pointer (some ⟨g, 9, none⟩)) rfl rfl (by kernel_rfl) (by kernel_rfl) (by kernel_rfl) (fun _ _ _ h => h) (.inl ⟨by kernel_rfl, fun U hU => by go_simp⟩) hS0 ?_
  simp only [Act.put, List.setIfInBounds_toArray, List.set_cons_zero, List.set_cons_succ]
  refine take_at (i := 3) (d := 19) (v := .slice A ms.length c) rfl rfl (by kernel_rfl) (by kernel_rfl) (by kernel_rfl) (fun _ _ _ h => h) (.inl ⟨by kernel_rfl, fun U hU => by have h7 : _ = some (Value.slice A ms.length c) := (HR.out.bk.below hU HR.out.bk.lt).cell 9; go_simp⟩) hS0 ?_
  simp only [Act.put, List.setIfInBounds_toArray, List.set_cons_zero, List.set_cons_succ]
  refine take_at (i := 4) (d := 20) (v := .int .i64 k) rfl rfl (by kernel_rfl) (by kernel_rfl) (by kernel_rfl) (fun _ _ _ h => h) (.inl ⟨by kernel_rfl, fun U hU => by go_simp⟩) hS0 ?_
  simp only [Act.put, List.setIfInBounds_toArray, List.set_cons_zero, List.set_cons_succ]
  refine take_at (i := 5) (d := 21) (v := .pointer (some ⟨g, 0, none⟩)) rfl rfl (by kernel_rfl) (by kernel_rfl) (by kernel_rfl) (fun _ _ _ h => h) (.inl ⟨by kernel_rfl, fun U hU => by go_simp⟩) hS0 ?_
  simp only [Act.put, List.setIfInBounds_toArray, List.set_cons_zero, List.set_cons_succ]
  refine take_at (i := 6) (d := 22) (v := .pointer (some ⟨g, 0, none⟩)) rfl rfl (by kernel_rfl) (by kernel_rfl) (by kernel_rfl) (fun _ _ _ h => h) (.inl ⟨by kernel_rfl, fun U hU => by go_simp⟩) hS0 ?_
  simp only [Act.put, List.setIfInBounds_toArray, List.set_cons_zero, List.set_cons_succ]
  refine take_at (i := 7) (d := 23) (v := .pointer (some ⟨g, 7, none⟩)) rfl rfl (by kernel_rfl) (by kernel_rfl) (by kernel_rfl) (fun _ _ _ h => h) (.inl ⟨by kernel_rfl, fun U hU => by go_simp⟩) hS0 ?_
  simp only [Act.put, List.setIfInBounds_toArray, List.set_cons_zero, List.set_cons_succ]
  refine take_at (i := 8) (d := 24) (v := .pointer (some ⟨g, 7, none⟩)) rfl rfl (by kernel_rfl) (by kernel_rfl) (by kernel_rfl) (fun _ _ _ h => h) (.inl ⟨by kernel_rfl, fun U hU => by go_simp⟩) hS0 ?_
  simp only [Act.put, List.setIfInBounds_toArray, List.set_cons_zero, List.set_cons_succ]
  refine take_at (i := 9) (d := 25) (v := .int .i64 base) rfl rfl (by kernel_rfl) (by kernel_rfl) (by kernel_rfl) (fun _ _ _ h => h) (.inl ⟨by kernel_rfl, fun U hU => by have h7 : _ = some (Value.int .i64 base) := (HR.out.bk.below hU HR.out.bk.lt).cell 7; go_simp⟩) hS0 ?_
  simp only [Act.put, List.setIfInBounds_toArray, List.set_cons_zero, List.set_cons_succ]
  refine take_at (i := 10) (d := 26) (v := .int .i64 at_) rfl rfl (by kernel_rfl) (by kernel_rfl) (by kernel_rfl) (fun _ _ _ h => h) (.inl ⟨by kernel_rfl, fun U hU => by go_simp⟩) hS0 ?_
  simp only [Act.put, List.setIfInBounds_toArray, List.set_cons_zero, List.set_cons_succ]
  refine take_at (i := 11) (d := 27) (v := .int .i64 ((base : Int) + at_)) rfl rfl (by kernel_rfl) (by kernel_rfl) (by kernel_rfl) (fun _ _ _ h => h) (.inl ⟨by kernel_rfl, fun U hU => by have h7 : IntKind.i64.wrap ((base : Int) + at_) = (base : Int) + at_ := (by rw [IntKind.wrap_i64]; have := HJ.out; omega); go_simp⟩) hS0 ?_
  simp only [Act.put, List.setIfInBounds_toArray, List.set_cons_zero, List.set_cons_succ]
  refine take_at (i := 12) (d := 28) (v := .int .i64 a) rfl rfl (by kernel_rfl) (by kernel_rfl) (by kernel_rfl) (fun _ _ _ h => h) (.inl ⟨by kernel_rfl, fun U hU => by go_simp⟩) hS0 ?_
  simp only [Act.put, List.setIfInBounds_toArray, List.set_cons_zero, List.set_cons_succ]
  refine take_at (i := 13) (d := 29) (v := .int .i64 b) rfl rfl (by kernel_rfl) (by kernel_rfl) (by kernel_rfl) (fun _ _ _ h => h) (.inl ⟨by kernel_rfl, fun U hU => by go_simp⟩) hS0 ?_
  simp only [Act.put, List.setIfInBounds_toArray, List.set_cons_zero, List.set_cons_succ]
  refine take_at (i := 14) (d := 30) (v := .agg #[.int .i64 k, .int .i64 ((base : Int) + at_), .int .i64 a, .int .i64 b]) rfl rfl (by kernel_rfl) (by kernel_rfl) (by kernel_rfl) (fun _ _ _ h => h) (.inl ⟨by kernel_rfl, fun U hU => by go_simp⟩) hS0 ?_
  simp only [Act.put, List.setIfInBounds_toArray, List.set_cons_zero, List.set_cons_succ]
  refine wpAnyH_all (rs := [15]) (by kernel_rfl) (by simp) ?_
  intro i hi
  simp only [List.mem_cons, List.not_mem_nil, or_false] at hi
  subst hi
  unfold wpOp
  go_simp
  left
  refine HD.out.mono ?_
  rintro e w1 ⟨A1, c1, rfl, ho, hb⟩
  have k1 := HR.out.bk.below hb hlt
  have q9 : _ = some (Value.slice A ms.length c) := k1.cell 9
  have f9 := k1.frozen 9
  have hlt1 := k1.lt
  obtain ⟨g1, rfl, hg1, -, -, -⟩ := ho.form (by rw [HK.out]; exact Nat.lt_of_le_of_lt (Nat.zero_le _) HJ.out)
  have hne : g1 ≠ g := by have : w.drew.heap.size ≤ g1 := hg1; have : w.drew.heap.size = w.heap.size := rfl; omega
  have K2 := Lib.hid (k1.set_ 9 (.slice (some ⟨g1, 0, none⟩) ms'.length c1))
  have O2 := Lib.hid (ho.apart (p := ⟨g, 9, none⟩) hne (.slice (some ⟨g1, 0, none⟩) ms'.length c1))
  have G2 := Lib.hid ((Below.gb hb).trans (grown_set (w := w1) (g := g) (i := 9) (.slice (some ⟨g1, 0, none⟩) ms'.length c1)))
  refine ⟨hb, ?_⟩
  have hS1 := hb
  refine take_at (i := 16) (d := 15) (v := .tuple #[.slice (some ⟨g1, 0, none⟩) ms'.length c1, .int .i64 x, .int .i64 0]) rfl rfl (by kernel_rfl) (by kernel_rfl) (by kernel_rfl) (fun _ _ _ h => h) (.inl ⟨by kernel_rfl, fun U hU => by go_simp⟩) hS1 ?_
  simp only [Act.put, List.setIfInBounds_toArray, List.set_cons_zero, List.set_cons_succ]
  refine take_at (i := 17) (d := 32) (v := .slice (some ⟨g1, 0, none⟩) ms'.length c1) rfl rfl (by kernel_rfl) (by kernel_rfl) (by kernel_rfl) (fun _ _ _ h => h) (.inl ⟨by kernel_rfl, fun U hU => by go_simp⟩) hS1 ?_
  simp only [Act.put, List.setIfInBounds_toArray, List.set_cons_zero, List.set_cons_succ]
  refine take_at (i := 18) (d := 33) (v := .int .i64 x) rfl rfl (by kernel_rfl) (by kernel_rfl) (by kernel_rfl) (fun _ _ _ h => h) (.inl ⟨by kernel_rfl, fun U hU => by go_simp⟩) hS1 ?_
  simp only [Act.put, List.setIfInBounds_toArray, List.set_cons_zero, List.set_cons_succ]
  refine take_at (i := 19) (d := 34) (v := .int .i64 0) rfl rfl (by kernel_rfl) (by kernel_rfl) (by kernel_rfl) (fun _ _ _ h => h) (.inl ⟨by kernel_rfl, fun U hU => by go_simp⟩) hS1 ?_
  simp only [Act.put, List.setIfInBounds_toArray, List.set_cons_zero, List.set_cons_succ]
  refine take_at (i := 20) (d := 12) (v := .slice (some ⟨g1, 0, none⟩) ms'.length c1) rfl rfl (by kernel_rfl) (by kernel_rfl) (by kernel_rfl) (fun _ _ _ h => h) (.inl ⟨by kernel_rfl, fun U hU => by go_simp⟩) hS1 ?_
  simp only [Act.put, List.setIfInBounds_toArray, List.set_cons_zero, List.set_cons_succ]
  refine take_at (i := 21) (d := 13) (v := .int .i64 x) rfl rfl (by kernel_rfl) (by kernel_rfl) (by kernel_rfl) (fun _ _ _ h => h) (.inl ⟨by kernel_rfl, fun U hU => by go_simp⟩) hS1 ?_
  simp only [Act.put, List.setIfInBounds_toArray, List.set_cons_zero, List.set_cons_succ]
  refine take_at (i := 22) (d := 14) (v := .int .i64 0) rfl rfl (by kernel_rfl) (by kernel_rfl) (by kernel_rfl) (fun _ _ _ h => h) (.inl ⟨by kernel_rfl, fun U hU => by go_simp⟩) hS1 ?_
  simp only [Act.put, List.setIfInBounds_toArray, List.set_cons_zero, List.set_cons_succ]
  refine wpAnyH_done (by kernel_rfl) ?_ _
  clear ho hb hg1 c7 c9 k1 hS0 hS1
  go_wp2
  go_ret2
  exact ⟨rfl, ⟨G2.out.os, G2.out.tape, G2.out.output, G2.out.size, G2.out.block⟩, _, c1, ⟨K2.out, O2.out.ints, fun a ha => by injection ha with ha; subst ha; exact hne⟩, O2.out.base (Nat.le_of_lt hlt)⟩

end Go.Proofs.Ytfmiamjbhlglbaa

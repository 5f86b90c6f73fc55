/-
  Contracts of the smallest functions of layer 5: the greatest generation, whether a place is free (a closure), the id of a place, slices cloned.
-/
import Derived.Test.YtfaajimmammfdaaPlc
import Derived.Test.YtfaajimmammfdaaIB
import Derived.Test.YtfaajimmammfdaaRows
import Derived.Lib.SliceRun
namespace Go.Proofs.Ytfaajimmammfdaa
open Go.RowKit

theorem Try.intsInfo : (Try.prog.info? 2).map (fun i => (i.zero, i.size, i.bytes)) = some (some (.int .i64 0), 1, 8) := by kernel_rfl
theorem Try.boolInfo : (Try.prog.info? 4).map (fun i => (i.zero, i.size, i.bytes)) = some (some (.bool false), 1, 1) := by kernel_rfl

/-- Places read as two lists. -/
structure Plc (w : World) (A : Option Addr) (n : Nat) (B : Option Addr) (m : Nat) (gs : List Int) (ls : List Bool) : Prop where
  g : Ints w A n gs
  l : Flags w B m ls

theorem Plc.below {w w' : World} {A B : Option Addr} {n m : Nat} {gs : List Int} {ls : List Bool} (h : Plc w A n B m gs ls) (hb : Below w.heap.size w w') : Plc w' A n B m gs ls := ⟨h.g.below hb, h.l.below hb⟩

/-- Places that the call has made itself. -/
structure OwnP (w : World) (base : Nat) (A : Option Addr) (c : Nat) (B : Option Addr) (d : Nat) (gs : List Int) (ls : List Bool) : Prop where
  g : OwnI 2 w base A c gs
  l : OwnB 4 w base B d ls
  s : ls.length ≤ 140737488351232

section
variable {w w' : World} {base : Nat} {A B : Option Addr} {c d : Nat} {gs : List Int} {ls : List Bool}
theorem OwnP.plc (h : OwnP w base A c B d gs ls) : Plc w A gs.length B ls.length gs ls := ⟨h.g.ints, h.l.flags h.s⟩
theorem OwnP.below (h : OwnP w base A c B d gs ls) (hb : Below w.heap.size w w') : OwnP w' base A c B d gs ls := ⟨h.g.below hb, h.l.below hb, h.s⟩
theorem OwnP.nil_ (w : World) (base : Nat) : OwnP w base none 0 none 0 [] [] := ⟨OwnI.nil_ _ _ _, OwnB.nil_ _ _ _, by simp⟩
end

theorem OwnP.base {w : World} {base base' : Nat} {A B : Option Addr} {c d : Nat} {gs : List Int} {ls : List Bool} (h : OwnP w base A c B d gs ls) (hb : base' ≤ base) : OwnP w base' A c B d gs ls := ⟨h.g.base hb, h.l.base hb, h.s⟩
/-- New places are handed back. -/
def NewP (gs : List Int) (ls : List Bool) (w : World) (e : Ending) (w' : World) : Prop :=
  ∃ A c B d, e = .returned (.agg #[.slice A gs.length c, .slice B ls.length d]) ∧ OwnP w' w.heap.size A c B d gs ls ∧ Below w.heap.size w w'

/-- A new slice of bools is handed back. -/
def NewB (E : TypeId) (zs : List Bool) (w : World) (e : Ending) (w' : World) : Prop :=
  ∃ A c, e = .returned (.slice A zs.length c) ∧ OwnB E w' w.heap.size A c zs ∧ Below w.heap.size w w'

/-- Is the place free? (A word that the walk does not open.) -/
def freeB (gs : List Int) (ls : List Bool) (i : Nat) : Bool := !bth ls i && decide (nth gs i < 1099511627776)
theorem freeB_yes {gs : List Int} {ls : List Bool} {i : Nat} : freeB gs ls i = true ↔ freeP gs ls i := by simp [freeB, freeP]

theorem most_any (b : Bool) (w : World) : Calls Try.prog 28 #[.bool b] w fun e w' => e = .returned (.int .i64 (if b = true then 1099511627775 else 1099511627776)) ∧ w = w' := by
  cases b
  · go_enter Try.func28, Try.ntmps28
    go_wp2
    go_ret
    exact ⟨rfl, rfl⟩
  · go_enter Try.func28, Try.ntmps28
    go_wp2
    go_ret
    exact ⟨rfl, rfl⟩

theorem isFree_any (g : Nat) (A B : Option Addr) (n c m d : Nat) (gs : List Int) (ls : List Bool) (i : Nat) (w : World) (hk : Bk w g 25 #[.slice A n c, .slice B m d]) (hp : Plc w A n B m gs ls) (hi : i < n) (him : i < m) :
    Calls Try.prog 31 #[.int .i64 (i : Int), .pointer (some ⟨g, 0, none⟩)] w fun e w' => e = .returned (.bool (freeB gs ls i)) ∧ w = w' := by
  obtain ⟨b, o, rfl, hb, hc⟩ := hp.g.2.2.2 (by omega)
  obtain ⟨b', o', rfl, hb', hc'⟩ := hp.l.2.2 (by omega)
  have c0 := hc i hi
  have c1 := hc' i him
  have k0 := hk.c0
  have k1 := hk.c1
  obtain ⟨x, hx⟩ : ∃ x, nth gs i = x := ⟨_, rfl⟩
  obtain ⟨y, hy⟩ : ∃ y, bth ls i = y := ⟨_, rfl⟩
  have HE : Hid (freeB gs ls i = (!y && decide (x < 1099511627776))) := Lib.hid (by simp [freeB, hx, hy])
  rw [hx] at c0
  rw [hy] at c1
  have hn := Nat.le_trans (Nat.le_mul_of_pos_right n (by omega : 0 < 8)) hp.g.2.1
  have hm := hp.l.2.1
  clear hc hc' hx hy hp hk
  cases y
  · go_enter Try.func31, Try.ntmps31
    go_wp2
    go_ret
    exact ⟨by rw [HE.out]; simp, rfl⟩
  · go_enter Try.func31, Try.ntmps31
    go_wp2
    go_ret
    exact ⟨by rw [HE.out]; simp, rfl⟩

/-- The closure that is handed back looks at places that lie in a block of their own. -/
def FreeOfAns (A B : Option Addr) (n c m d : Nat) (w : World) (e : Ending) (w' : World) : Prop :=
  ∃ g, e = .returned (.func (.func 31) #[] #[.pointer (some ⟨g, 0, none⟩)]) ∧ Bk w' g 25 #[.slice A n c, .slice B m d] ∧ w.heap.size ≤ g ∧ Below w.heap.size w w'

theorem freeOf_any (A B : Option Addr) (n c m d : Nat) (w : World) : Calls Try.prog 25 #[.agg #[.slice A n c, .slice B m d]] w (FreeOfAns A B n c m d w) := by
  go_enter Try.func25, Try.ntmps25
  go_wp2
  go_ret
  exact ⟨w.heap.size, rfl, Bk.new w _ _, Nat.le_refl _, (Below.refl _ _).alloc (Nat.le_refl _) _⟩

theorem id_any (A B : Option Addr) (n c m d : Nat) (gs : List Int) (ls : List Bool) (i : Nat) (w : World) (hp : Plc w A n B m gs ls) (hok : okS gs ls) (hi : i < n) :
    Calls Try.prog 27 #[.agg #[.slice A n c, .slice B m d], .int .i64 (i : Int)] w (RetB (.int .i64 (idP gs i)) w) := by
  obtain ⟨b, o, rfl, hb, hc⟩ := hp.g.2.2.2 (by omega)
  have hlen : gs.length = n := hp.g.1
  obtain ⟨x, hx⟩ : ∃ x, nth gs i = x := ⟨_, rfl⟩
  obtain ⟨h0, h1, _⟩ := hok.2.2.2 i (by omega)
  have hi2 : i < 256 := by have := hok.2.1; omega
  have c0 := hc i hi
  have HE : Hid (idP gs i = x * 256 + (i : Int)) := Lib.hid (by unfold idP; rw [hx]; omega)
  rw [hx] at c0 h0 h1
  have hn := Nat.le_trans (Nat.le_mul_of_pos_right n (by omega : 0 < 8)) hp.g.2.1
  clear hc hx hp hok hlen
  go_enter Try.func27, Try.ntmps27
  go_wp2
  go_ret
  exact RetB.of (by rw [HE.out]; rfl) ((Below.refl _ _).alloc (Nat.le_refl _) _)

theorem below_grown1 {w w' : World} {t : TypeId} (h : (w.alloc (.cells #[] t)).grownBy w' (Value.slice (some ⟨w.heap.size, 0, none⟩) 0 0).ownBlock) : Below w.heap.size w w' :=
  ((Below.refl w.heap.size w).alloc (Nat.le_refl _) _).grown h (by simp) (by intro k hk; simp [Value.ownBlock] at hk; omega)

theorem cloneI_any (A : Option Addr) (n c : Nat) (gs : List Int) (w : World) (hp : Ints w A n gs) :
    Calls Try.prog 32 #[.slice A n c] w (NewI 2 gs w) := by
  have q : ∀ (w : World) (a : Option Addr) (n c n' c' : Nat), (binOp .eql 22 (.slice a n c) (.slice none n' c')).run Try.prog w = .ok (.bool a.isNone) w := fun w a n c n' c' => Lib.run_eql_slice_nil w _ _ a n c n' c' Try.underlying22
  have HP := Lib.hid hp
  have HN := Lib.hid hp.1
  have hn : n * 8 ≤ 140737488351232 := hp.2.1
  cases A with
  | none =>
    have h0 : n = 0 := by
      rcases Nat.eq_zero_or_pos n with h | h
      · exact h
      · obtain ⟨b, o, e, _⟩ := hp.2.2.2 h
        cases e
    have HG : Hid (gs = []) := Lib.hid (List.eq_nil_of_length_eq_zero (by rw [hp.1]; exact h0))
    clear hp
    subst h0
    go_enter Try.func32, Try.ntmps32
    go_wp2
    go_ret
    have := HG.out
    subst this
    exact ⟨none, 0, rfl, OwnI.nil_ _ _ _, Below.refl _ _⟩
  | some a =>
    clear hp
    go_enter Try.func32, Try.ntmps32
    go_wp2_with (at_builtin; refine wpList_append_ints _ rfl _ _ 22 rfl 2 Try.underlying22 Try.intsInfo w.heap.size (some ⟨w.heap.size, 0, none⟩) 0 [] 0 rfl rfl (OwnI.made _ _ _) (some a) n c gs rfl (HP.out.alloc _) (by simp; omega) (by simp) ?_; intro A' c' w' ho hg; rw [List.nil_append] at ho ⊢; have HO := Lib.hid ho; have HB := Lib.hid (below_grown1 hg); clear ho hg)
    go_ret
    exact ⟨A', c', rfl, HO.out, HB.out⟩

theorem cloneB_any (A : Option Addr) (n c : Nat) (ls : List Bool) (w : World) (hp : Flags w A n ls) :
    Calls Try.prog 33 #[.slice A n c] w (NewB 4 ls w) := by
  have q : ∀ (w : World) (a : Option Addr) (n c n' c' : Nat), (binOp .eql 23 (.slice a n c) (.slice none n' c')).run Try.prog w = .ok (.bool a.isNone) w := fun w a n c n' c' => Lib.run_eql_slice_nil w _ _ a n c n' c' Try.underlying23
  have HP := Lib.hid hp
  have HN := Lib.hid hp.1
  have hn : n ≤ 140737488351232 := hp.2.1
  cases A with
  | none =>
    have h0 : n = 0 := by
      rcases Nat.eq_zero_or_pos n with h | h
      · exact h
      · obtain ⟨b, o, e, _⟩ := hp.2.2 h
        cases e
    have HG : Hid (ls = []) := Lib.hid (List.eq_nil_of_length_eq_zero (by rw [hp.1]; exact h0))
    clear hp
    subst h0
    go_enter Try.func33, Try.ntmps33
    go_wp2
    go_ret
    have := HG.out
    subst this
    exact ⟨none, 0, rfl, OwnB.nil_ _ _ _, Below.refl _ _⟩
  | some a =>
    clear hp
    go_enter Try.func33, Try.ntmps33
    go_wp2_with (at_builtin; refine wpList_append_flags _ rfl _ _ 23 rfl 4 Try.underlying23 Try.boolInfo w.heap.size (some ⟨w.heap.size, 0, none⟩) 0 [] 0 rfl rfl (OwnB.made _ _ _) (some a) n c ls rfl (HP.out.below ((Below.refl _ _).alloc (Nat.le_refl _) _)) (by simp; omega) (by simp) ?_; intro A' c' w' ho hg; rw [List.nil_append] at ho ⊢; have HO := Lib.hid ho; have HB := Lib.hid (below_grown1 hg); clear ho hg)
    go_ret
    exact ⟨A', c', rfl, HO.out, HB.out⟩

end Go.Proofs.Ytfaajimmammfdaa

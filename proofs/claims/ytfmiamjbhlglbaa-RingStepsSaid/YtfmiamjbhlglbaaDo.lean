/-
  The contracts of cell.Check, cell.Do and of what they call, for the accesses that a hand does: a load, a store, a compare and swap of a cell that is there.
-/
import Derived.Test.YtfmiamjbhlglbaaRa
namespace Go.Proofs.Ytfmiamjbhlglbaa
open Go.RowKit

theorem ccheck_any (A : Option Addr) (n c : Nat) (w : World) (hn : n ≤ 9223372036854775807) : Calls Try.prog 33 #[.slice A n c] w (RetB (.int .i64 (if 65536 < n then 1 else 0)) w) := by
  by_cases h : 65536 < n
  · rw [if_pos h]
    go_enter Try.func33, Try.ntmps33
    go_wp2
    go_ret
    exact ⟨rfl, Below.refl _ _⟩
  · rw [if_neg h]
    go_enter Try.func33, Try.ntmps33
    go_wp2
    go_ret
    exact ⟨rfl, Below.refl _ _⟩

theorem ccheck_ok (A : Option Addr) (n c : Nat) (w : World) (h : n ≤ 65536) :
    Calls Try.prog 33 #[.slice A n c] w fun e w' => e = .returned (.int .i64 0) ∧ w = w' := by
  have h1 : decide ((65536 : Int) < (n : Int)) = false := by simp; omega
  go_enter Try.func33, Try.ntmps33
  go_wp2
  go_ret
  exact ⟨rfl, rfl⟩

set_option maxHeartbeats 400000 in
theorem clone_any (A : Option Addr) (n c : Nat) (zs : List Int) (w : World) (hx : Ints w A n zs) :
    Calls Try.prog 26 #[.slice A n c] w (NewI 2 zs w) := by
  have HX := Lib.hid hx
  obtain ⟨lx, bx, fx, cx⟩ := hx
  have LX := Lib.hid lx
  have FX := Lib.hid fx
  have CX := Lib.hid cx
  clear lx fx cx
  cases A with
  | none =>
    have hz : n = 0 := by
      rcases Nat.eq_zero_or_pos n with h | h
      · exact h
      · obtain ⟨b, o, e, _⟩ := CX.out h
        cases e
    subst hz
    have hn : zs = [] := List.eq_nil_of_length_eq_zero LX.out
    have HN := Lib.hid hn
    clear hn
    have e1 : ∀ W, (binOp .eql 23 (.slice none 0 c) (.slice none 0 0)).run Try.prog W = .ok (.bool true) W := fun W => Lib.run_eql_slice_nil W 23 2 none 0 c 0 0 Try.underlying23
    go_enter Try.func26, Try.ntmps26
    go_wp2
    go_ret
    rw [HN.out]
    exact ⟨none, 0, rfl, OwnI.nil_ _ _ _, Below.refl _ _⟩
  | some a =>
    have e1 : ∀ W, (binOp .eql 23 (.slice (some a) n c) (.slice none 0 0)).run Try.prog W = .ok (.bool false) W := fun W => Lib.run_eql_slice_nil W 23 2 (some a) n c 0 0 Try.underlying23
    go_enter Try.func26, Try.ntmps26
    go_wp2_with (at_builtin; go_loud (refine wpList_append_ints _ rfl _ _ 23 rfl 2 Try.underlying23 infoI w.heap.size _ _ [] 0 rfl rfl (OwnI.made _ _ w) _ _ _ zs rfl (HX.out.alloc _) (by simpa using bx) (by simp) ?_); intro A' c' w' hown hgrow)
    go_ret
    exact ⟨A', c', rfl, hown, (((Below.refl _ _).alloc (Nat.le_refl _) _).grown hgrow (by simp) (by simp [Value.ownBlock]))⟩

theorem OwnI.raise {E : TypeId} {w : World} {base g : Nat} {c : Nat} {zs : List Int} (h : OwnI E w base (some ⟨g, 0, none⟩) c zs) : OwnI E w g (some ⟨g, 0, none⟩) c zs := by
  obtain ⟨hl, hf, h1, h2⟩ := h
  refine ⟨hl, hf, h1, ?_⟩
  rcases h2 with ⟨e, -⟩ | ⟨g', cap, cur, e, hg, r⟩
  · cases e
  · refine .inr ⟨g', cap, cur, e, ?_, r⟩
    injection e with e1 _ _
    injection e1 with e1
    injection e1 with e1 _ _
    omega

/-- What an access hands back, and the row of the caller's own behind it. -/
def AccOf (w : World) (g c : Nat) (zs' : List Int) (x : Int) (e : Ending) (w' : World) : Prop :=
  e = .returned (.tuple #[.int .i64 x, .int .i64 0]) ∧ OwnI 2 w' g (some ⟨g, 0, none⟩) c zs' ∧ w.grownBy w' (some g)

set_option maxHeartbeats 400000 in
theorem access_load_own (g c : Nat) (zs : List Int) (a b : Int) (w : World) (n : Nat) (hn : n = zs.length) (j : Nat) (hj : j < n) (hown : OwnI 2 w g (some ⟨g, 0, none⟩) c zs) (hlt : g < w.heap.size) :
    Calls Try.prog 60 #[.slice (some ⟨g, 0, none⟩) n c, .agg #[.int .i64 0, .int .i64 j, .int .i64 a, .int .i64 b]] w (AccOf w g c zs (nth zs j)) := by
  obtain ⟨hc, hf⟩ := hown.at_ (hn ▸ hj)
  have _hm := hown.1
  rw [← hn] at _hm
  have HO := Lib.hid hown
  have HN := Lib.hid hn
  clear hown hn
  go_enter Try.func60, Try.ntmps60
  go_wp2
  go_ret2
  exact ⟨rfl, HO.out.below ((Below.refl _ _).alloc (Nat.le_refl _) _), World.grownBy_alloc _ _ _⟩

set_option maxHeartbeats 400000 in
theorem access_store (g c : Nat) (zs : List Int) (a b : Int) (w : World) (n : Nat) (hn : n = zs.length) (j : Nat) (hj : j < n) (hown : OwnI 2 w g (some ⟨g, 0, none⟩) c zs) (hlt : g < w.heap.size) (fa : Fit a) :
    Calls Try.prog 60 #[.slice (some ⟨g, 0, none⟩) n c, .agg #[.int .i64 1, .int .i64 j, .int .i64 a, .int .i64 b]] w (AccOf w g c (zs.set j a) 0) := by
  obtain ⟨hc, hf⟩ := hown.at_ (hn ▸ hj)
  have _hm := hown.1
  rw [← hn] at _hm
  have HO := Lib.hid hown
  have HN := Lib.hid hn
  have FA := Lib.hid fa
  clear fa
  clear hown hn
  go_enter Try.func60, Try.ntmps60
  go_wp2
  go_ret2
  exact ⟨rfl, (HO.out.set_ j FA.out).below ((Below.refl _ _).alloc (Nat.le_refl _) _), (HO.out.2.2.stored j _).2.trans (World.grownBy_alloc _ _ _)⟩

set_option maxHeartbeats 400000 in
theorem access_cas_yes (g c : Nat) (zs : List Int) (a b : Int) (w : World) (n : Nat) (hn : n = zs.length) (j : Nat) (hj : j < n) (hown : OwnI 2 w g (some ⟨g, 0, none⟩) c zs) (hlt : g < w.heap.size) (fb : Fit b) (he : nth zs j = a) :
    Calls Try.prog 60 #[.slice (some ⟨g, 0, none⟩) n c, .agg #[.int .i64 2, .int .i64 j, .int .i64 a, .int .i64 b]] w (AccOf w g c (zs.set j b) 1) := by
  obtain ⟨hc, hf⟩ := hown.at_ (hn ▸ hj)
  have _hm := hown.1
  rw [← hn] at _hm
  have HO := Lib.hid hown
  have HN := Lib.hid hn
  have FB := Lib.hid fb
  have h1 : (nth zs j != a) = false := by simp [he]
  clear fb he
  clear hown hn
  go_enter Try.func60, Try.ntmps60
  go_wp2
  go_ret2
  exact ⟨rfl, (HO.out.set_ j FB.out).below ((Below.refl _ _).alloc (Nat.le_refl _) _), (HO.out.2.2.stored j _).2.trans (World.grownBy_alloc _ _ _)⟩

set_option maxHeartbeats 400000 in
theorem access_cas_no (g c : Nat) (zs : List Int) (a b : Int) (w : World) (n : Nat) (hn : n = zs.length) (j : Nat) (hj : j < n) (hown : OwnI 2 w g (some ⟨g, 0, none⟩) c zs) (hlt : g < w.heap.size) (he : nth zs j ≠ a) :
    Calls Try.prog 60 #[.slice (some ⟨g, 0, none⟩) n c, .agg #[.int .i64 2, .int .i64 j, .int .i64 a, .int .i64 b]] w (AccOf w g c zs 0) := by
  obtain ⟨hc, hf⟩ := hown.at_ (hn ▸ hj)
  have _hm := hown.1
  rw [← hn] at _hm
  have HO := Lib.hid hown
  have HN := Lib.hid hn
  have h1 : (nth zs j != a) = true := by simpa using he
  clear he
  clear hown hn
  go_enter Try.func60, Try.ntmps60
  go_wp2
  go_ret2
  exact ⟨rfl, HO.out.below ((Below.refl _ _).alloc (Nat.le_refl _) _), World.grownBy_alloc _ _ _⟩

/-- The accesses that a hand does: cells, and what is told. -/
inductive AccK (zs : List Int) (j : Nat) : Int → Int → Int → List Int → Int → Prop
  | load (a b : Int) : AccK zs j 0 a b zs (nth zs j)
  | store (a b : Int) (fa : Fit a) : AccK zs j 1 a b (zs.set j a) 0
  | casYes (a b : Int) (fb : Fit b) (he : nth zs j = a) : AccK zs j 2 a b (zs.set j b) 1
  | casNo (a b : Int) (he : nth zs j ≠ a) : AccK zs j 2 a b zs 0

theorem AccK.len {zs zs' : List Int} {j : Nat} {k a b x : Int} (h : AccK zs j k a b zs' x) : zs'.length = zs.length := by
  cases h <;> simp

theorem access_k (g c : Nat) (zs zs' : List Int) (k a b x : Int) (w : World) (n : Nat) (hn : n = zs.length) (j : Nat) (hj : j < n) (hown : OwnI 2 w g (some ⟨g, 0, none⟩) c zs) (hlt : g < w.heap.size) (hk : AccK zs j k a b zs' x) :
    Calls Try.prog 60 #[.slice (some ⟨g, 0, none⟩) n c, .agg #[.int .i64 k, .int .i64 j, .int .i64 a, .int .i64 b]] w (AccOf w g c zs' x) := by
  cases hk with
  | load => exact access_load_own g c zs a b w n hn j hj hown hlt
  | store _ _ fa => exact access_store g c zs a b w n hn j hj hown hlt fa
  | casYes _ _ fb he => exact access_cas_yes g c zs a b w n hn j hj hown hlt fb he
  | casNo _ _ he => exact access_cas_no g c zs a b w n hn j hj hown hlt he

/-- What Do hands back: new cells, what is told; what was there is as it was. -/
def DoOf (zs : List Int) (x : Int) (w : World) (e : Ending) (w' : World) : Prop :=
  ∃ A c, e = .returned (.tuple #[.slice A zs.length c, .int .i64 x, .int .i64 0]) ∧ OwnI 2 w' w.heap.size A c zs ∧ Below w.heap.size w w'

set_option maxHeartbeats 400000 in
theorem do_k (A : Option Addr) (n c : Nat) (zs zs' : List Int) (k a b x : Int) (w : World) (hx : Ints w A n zs) (hle : n ≤ 65536) (j : Nat) (hj : j < n) (hk : AccK zs j k a b zs' x) :
    Calls Try.prog 59 #[.slice A n c, .agg #[.int .i64 k, .int .i64 j, .int .i64 a, .int .i64 b]] w (DoOf zs' x w) := by
  have lx := hx.1
  have hm := hx.2.1
  have HX := Lib.hid hx
  have HK := Lib.hid hk
  have HL := Lib.hid lx
  clear hx lx hk
  go_enter Try.func59, Try.ntmps59
  go_wp2_with (go_at_call 33; refine (ccheck_ok _ _ _ _ hle).mono ?_; rintro e w' ⟨rfl, rfl⟩)
  refine (clone_any _ _ _ zs _ (HX.out.alloc _)).mono ?_
  rintro e w1 ⟨A1, c1, rfl, ho, hb⟩
  obtain ⟨hk, _⟩ := keepsB hb
  obtain ⟨g, rfl, hg, hlt, -, -⟩ := ho.form (by rw [HL.out]; omega)
  have HO := Lib.hid ho
  have HB := Lib.hid hb
  have hz : w.heap.size + 1 ≤ w1.heap.size := by have := hb.size; simpa using this
  have hg' : w.heap.size + 1 ≤ g := by simpa using hg
  clear ho hb hg
  go_wp2_with fail
  refine (access_k g _ zs zs' k a b x _ _ rfl j (by rw [HL.out]; exact hj) HO.out.raise hlt HK.out).mono ?_
  rintro e w2 ⟨rfl, ho2, hg2⟩
  have HO2 := Lib.hid ho2
  have HG2 := Lib.hid hg2
  clear ho2 hg2
  simp only []
  go_wp2
  go_ret3
  refine ⟨_, c1, by rw [HK.out.len]; rfl, HO2.out.base (by omega), ?_⟩
  have hb1 : Below w.heap.size w w1 := ((Below.refl _ _).alloc (Nat.le_refl _) _).trans (HB.out.mono (by simp))
  exact hb1.grown HG2.out (by omega) fun i hi => by cases hi; omega

end Go.Proofs.Ytfmiamjbhlglbaa

/-
  Contracts of the functions of layer 3 that make memory: a copy of octets, the closure that tells the dice then, and draws, which makes the closures.
-/
import Derived.Test.YtljfinfjchkphaaDcDice
import Derived.Deep.RegionHeld3
import Derived.WalkSpells
import Derived.Deep.CutBlock
import Derived.Deep.DeepCutAuto
import Derived.OrdersHeld
namespace Go.Proofs.Ytljfinfjchkphaa
open Go.RowKit

attribute [local go_sem] run_store_func

/-- A copy of octets is handed back, in memory of the call's own. -/
def NewO (bs : List Int) (w : World) (e : Ending) (w' : World) : Prop :=
  ∃ A c, e = .returned (.slice A bs.length c) ∧ OwnO 5 w' w.heap.size A c bs ∧ Below w.heap.size w w'

theorem clone_any (A : Option Addr) (n c : Nat) (bs : List Int) (w : World) (h : Octs w A n bs) : Calls Try.prog 47 #[.slice A n c] w (NewO bs w) := by
  have q22 : ∀ (w : World) (a : Option Addr) (n c n' c' : Nat), (binOp .eql 22 (.slice a n c) (.slice none n' c')).run Try.prog w = .ok (.bool a.isNone) w := fun w a n c n' c' => Lib.run_eql_slice_nil w _ _ a n c n' c' Try.underlying22
  cases A with
  | none =>
    have hn : bs = [] := by
      refine List.eq_nil_of_length_eq_zero ?_
      rcases Nat.eq_zero_or_pos n with h0 | h0
      · rw [h.1, h0]
      · obtain ⟨b, o, e, _⟩ := h.2.2.2 h0
        cases e
    have HN := Lib.hid hn
    clear h hn
    go_enter Try.func47, Try.ntmps47
    go_wp2
    go_ret
    refine ⟨none, 0, ?_, ?_, Below.refl _ _⟩
    · rw [HN.out]; rfl
    · rw [HN.out]; exact OwnO.nil_ _ _ _
  | some ad =>
    have HO := Lib.hid h
    clear h
    go_enter Try.func47, Try.ntmps47
    go_wp2_with (at_builtin; refine wpList_append_octs _ rfl _ _ 22 rfl 5 Try.underlying22 Try.octetInfo w.heap.size _ 0 [] 0 rfl rfl (OwnO.made 5 w.heap.size w) (some ad) n c bs rfl (HO.out.below ((Below.refl _ w).alloc (Nat.le_refl _) _)) (by have := HO.out.2.1; simpa using this) (by simp) ?_)
    intro A' c' w' hown hgrow
    have hb : Below w.heap.size w w' := ((Below.refl _ w).alloc (Nat.le_refl _) _).grown hgrow (by simp) (by intro k hk; simp [Value.ownBlock] at hk; omega)
    have HW := Lib.hid hown
    have HB := Lib.hid hb
    clear hown hgrow hb
    go_wp2
    go_ret
    exact ⟨A', c', by simp, by simpa using HW.out, HB.out⟩

/-- Dice are handed back, their octets in memory of the call's own. -/
def NewD (bs : List Int) (p : Int) (w : World) (e : Ending) (w' : World) : Prop :=
  ∃ A c, e = .returned (.agg #[.slice A bs.length c, .int .i64 p]) ∧ OwnO 5 w' w.heap.size A c bs ∧ Below w.heap.size w w'

/-- What stays while the dice then are told. -/
def ThenS (w : World) (g : Nat) (A : Option Addr) (n c p : Nat) (U : World) : Prop :=
  Below w.heap.size w U ∧ U.cell? ⟨g, 0, none⟩ = some (.slice A n c) ∧ U.cell? ⟨g, 1, none⟩ = some (.int .i64 (p : Int))

section
variable {w w' : World} {g : Nat} {A : Option Addr} {n c p : Nat} {bs : List Int}
theorem DS.below (h : DS w g A n c p bs) (hb : Below w.heap.size w w') : DS w' g A n c p bs := ⟨h.1.below hb h.1.lt, h.2.1.below hb, h.2.2⟩
theorem DS.c0 (h : DS w g A n c p bs) : w.cell? ⟨g, 0, none⟩ = some (.slice A n c) := (h.1.cell 0).trans rfl
theorem DS.c1 (h : DS w g A n c p bs) : w.cell? ⟨g, 1, none⟩ = some (.int .i64 (p : Int)) := (h.1.cell 1).trans rfl
theorem DS.thens (h : DS w g A n c p bs) (hb : Below w.heap.size w w') : ThenS w g A n c p w' := ⟨hb, (h.below hb).c0, (h.below hb).c1⟩
end

set_option maxHeartbeats 1000000 in
theorem then_any (g : Nat) (A : Option Addr) (n c p : Nat) (bs : List Int) (w : World) (h : DS w g A n c p bs) :
    Calls Try.prog 46 #[.pointer (some ⟨g, 0, none⟩)] w (NewD bs p w) := by
  have h0 : ThenS w g A n c p (w.alloc (.cells #[.slice none 0 0, .int .i64 0] 24)).drew := h.thens ((Below.refl w.heap.size w).alloc (Nat.le_refl _) _).drew
  have k0 : Bk (w.alloc (.cells #[.slice none 0 0, .int .i64 0] 24)).drew w.heap.size 24 #[.slice none 0 0, .int .i64 0] := Bk.new w _ _
  have HD := Lib.hid h
  clear h
  go_enter Try.func46, Try.ntmps46
  go_upto_region 1 with fail
  refine wp_region_held (S := ThenS w g A n c p) (by kernel_rfl) ?_
  change wpAnyH _ _ _ _ _ _ _ _ (World.drew _)
  generalize (w.alloc (.cells #[.slice none 0 0, .int .i64 0] 24)).drew = w0 at h0 k0 ⊢
  refine wpAnyH_take (i := 0) (v := .pointer (some ⟨g, 0, none⟩)) rfl (by kernel_rfl) (by kernel_rfl) (by kernel_rfl) (fun _ _ _ h => h) (.inl ⟨by rfl, fun U hU => by go_simp⟩) h0 ?_
  refine wpAnyH_take (i := 1) (v := .slice A n c) rfl (by kernel_rfl) (by kernel_rfl) (by kernel_rfl) (fun _ _ _ h => h) (.inl ⟨by rfl, fun U hU => by have h3 := hU.2.1; go_simp⟩) h0 ?_
  refine wpAnyH_take (i := 3) (v := .pointer (some ⟨g, 1, none⟩)) rfl (by kernel_rfl) (by kernel_rfl) (by kernel_rfl) (fun _ _ _ h => h) (.inl ⟨by rfl, fun U hU => by go_simp⟩) h0 ?_
  refine wpAnyH_take (i := 4) (v := .int .i64 p) rfl (by kernel_rfl) (by kernel_rfl) (by kernel_rfl) (fun _ _ _ h => h) (.inl ⟨by rfl, fun U hU => by have h3 := hU.2.2; go_simp⟩) h0 ?_
  refine wpAnyH_all (rs := [2]) (by kernel_rfl) (by simp) ?_
  intro i hi
  simp only [List.mem_cons, List.not_mem_nil, or_false] at hi
  subst hi
  unfold wpOp
  go_simp
  left
  refine (clone_any A n c bs _ (HD.out.below h0.1).2.1).mono ?_
  rintro e w1 ⟨A', c', rfl, hown, hb1⟩
  have h1 := HD.out.thens (below3 h0.1 hb1)
  have k1 := k0.below hb1 k0.lt
  have hne := ((hown.far (p := ⟨w.heap.size, 0, none⟩) k0.lt (.slice A' bs.length c')).far (p := ⟨w.heap.size, 1, none⟩) k0.lt (.int .i64 (p : Int))).base h0.1.size
  have h2 := HD.out.thens ((h1.1.setCell (p := ⟨w.heap.size, 0, none⟩) (Nat.le_refl _) (.slice A' bs.length c')).setCell (p := ⟨w.heap.size, 1, none⟩) (Nat.le_refl _) (.int .i64 (p : Int)))
  refine ⟨h1, ?_⟩
  clear hb1 k0 h0
  refine wpAnyH_take (i := 5) (v := .agg #[.slice A' bs.length c', .int .i64 p]) rfl (by kernel_rfl) (by kernel_rfl) (by kernel_rfl) (fun _ _ _ h => h) (.inl ⟨by rfl, fun U hU => by go_simp⟩) h1 ?_
  refine wpAnyH_all (rs := [6]) (by kernel_rfl) (by simp) ?_
  intro i hi
  simp only [List.mem_cons, List.not_mem_nil, or_false] at hi
  subst hi
  have c0 := k1.cell 0
  have c1 := k1.cell 1
  have f0 := k1.frozen 0
  have f1 := k1.frozen 1
  simp at c0 c1
  unfold wpOp
  go_simp
  left
  refine ⟨by kernel_rfl, ?_⟩
  have HN := Lib.hid hne
  have H2 := Lib.hid h2
  clear hne h2 hown h1 k1
  go_wp2
  exact bodyPost_ret (v := .agg #[.slice A' bs.length c', .int .i64 p]) (by simp [results, Try.results46, go_sem, *]) rfl ⟨A', c', rfl, HN.out, H2.out.1⟩

/-- Two closures are handed back: by one a number is drawn, the other one tells the dice then. -/
def DrawsAns (A : Option Addr) (n c p : Nat) (bs : List Int) (w : World) (e : Ending) (w' : World) : Prop :=
  ∃ g h, e = .returned (.tuple #[.func (.func 45) #[] #[.pointer (some ⟨h, 0, none⟩)], .func (.func 46) #[] #[.pointer (some ⟨g, 0, none⟩)]]) ∧
    DS w' g A n c p bs ∧ Bk w' h 63 #[.func (.func 44) #[] #[.pointer (some ⟨g, 0, none⟩)]] ∧ w.heap.size ≤ g ∧ w.heap.size ≤ h ∧ Below w.heap.size w w'

theorem draws_any (A : Option Addr) (n c p : Nat) (bs : List Int) (w : World) (ho : Octs w A n bs) (hp : p ≤ n) :
    Calls Try.prog 36 #[.agg #[.slice A n c, .int .i64 (p : Int)]] w (DrawsAns A n c p bs w) := by
  go_enter Try.func36, Try.ntmps36
  go_wp2
  go_ret2
  have hb1 := (Below.refl w.heap.size w).alloc (Nat.le_refl _) (.cells #[.slice A n c, .int .i64 (p : Int)] 24)
  have hb2 := hb1.alloc (by simp) (.cells #[.func (.func 44) #[] #[.pointer (some ⟨w.heap.size, 0, none⟩)]] 63)
  refine ⟨w.heap.size, w.heap.size + 1, rfl, ⟨?_, ho.below hb2, hp⟩, ?_, Nat.le_refl _, by omega, hb2⟩
  · exact (Bk.new w _ _).alloc _
  · have := Bk.new (w.alloc (.cells #[.slice A n c, .int .i64 (p : Int)] 24)) 63 #[.func (.func 44) #[] #[.pointer (some ⟨w.heap.size, 0, none⟩)]]
    simpa using this

end Go.Proofs.Ytljfinfjchkphaa

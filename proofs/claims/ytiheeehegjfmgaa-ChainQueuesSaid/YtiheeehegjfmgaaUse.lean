/-
  What the laws of layer 6 use: the program and the document answer the same letters at New, Walk, Where and Check; a variable that holds chains is written into, and the rows stay.
-/
import Derived.Test.YtiheeehegjfmgaaLive
import Derived.Test.YtiheeehegjfmgaaFew
namespace Go.Proofs.Ytiheeehegjfmgaa
open Go.RowKit

theorem new_both (x y : Int) : ∃ N H T er, (∀ w, Calls Try.prog 21 #[.int .i64 x, .int .i64 y] w (NewCE N H T er w)) ∧ ∀ w, Calls Try.prog 22 #[.int .i64 x, .int .i64 y] w (RetCE N H T er w) := by
  by_cases h : x < 0 ∨ 1024 < x ∨ y < 1 ∨ 256 < y
  · exact ⟨[], [], [], 1, fun w => new_bad x y h w, fun w => rnew_bad x y h w⟩
  · obtain ⟨n, rfl⟩ : ∃ n : Nat, x = (n : Int) := ⟨x.toNat, by omega⟩
    obtain ⟨m, rfl⟩ : ∃ m : Nat, y = (m : Int) := ⟨y.toNat, by omega⟩
    exact ⟨_, _, _, 0, fun w => new_ok n m (by omega) (by omega) (by omega) w, fun w => rnew_ok n m (by omega) (by omega) (by omega) w⟩

/-- Both answer these numbers, and this error. -/
def BothI (fp fd : FuncId) (args : Array Value) (next head tail zs : List Int) (er : Int) : Prop :=
  (∀ (A B D : Option Addr) (n a m b k d : Nat) (w : World), Chn w A n B m D k next head tail → Calls Try.prog fp (#[.agg #[.slice A n a, .slice B m b, .slice D k d]] ++ args) w (RetIE zs er w)) ∧
    (∀ (A B D : Option Addr) (n a m b k d : Nat) (w : World), Chn w A n B m D k next head tail → Calls Try.prog fd (#[.agg #[.slice A n a, .slice B m b, .slice D k d]] ++ args) w (RetIE zs er w))
def BothN (fp fd : FuncId) (args : Array Value) (next head tail : List Int) (x er : Int) : Prop :=
  (∀ (A B D : Option Addr) (n a m b k d : Nat) (w : World), Chn w A n B m D k next head tail → Calls Try.prog fp (#[.agg #[.slice A n a, .slice B m b, .slice D k d]] ++ args) w (RetNE x er w)) ∧
    (∀ (A B D : Option Addr) (n a m b k d : Nat) (w : World), Chn w A n B m D k next head tail → Calls Try.prog fd (#[.agg #[.slice A n a, .slice B m b, .slice D k d]] ++ args) w (RetNE x er w))

theorem walk_both (next head tail : List Int) (list : Int) : ∃ zs er, BothI 23 24 #[.int .i64 list] next head tail zs er := by
  by_cases hR : ∃ qs, Rep next head tail qs
  · obtain ⟨qs, r⟩ := hR
    have hm : qs.length = head.length := r.lh.symm
    rcases in_cases list qs.length with hl | ⟨i, rfl, hi, hl⟩
    · exact ⟨[], 1, fun A B D n a m b k d w hp => walk_out A B D n a m b k d next head tail list qs r (by rw [← hp.h.1, ← hm]; exact hl) w hp, fun A B D n a m b k d w hp => rwalk_out A B D n a m b k d next head tail list qs r hl w hp⟩
    · exact ⟨qth qs i, 0, fun A B D n a m b k d w hp => walk_ok A B D n a m b k d next head tail i qs r hi w hp, fun A B D n a m b k d w hp => rwalk_ok A B D n a m b k d next head tail i qs r hi w hp⟩
  · have hno : ∀ qs, ¬ Rep next head tail qs := fun qs r => hR ⟨qs, r⟩
    exact ⟨[], 1, fun A B D n a m b k d w hp => walk_no A B D n a m b k d next head tail list hno w hp, fun A B D n a m b k d w hp => rwalk_no A B D n a m b k d next head tail list hno w hp⟩

theorem where_both (next head tail : List Int) (x : Int) : ∃ z er, BothN 25 26 #[.int .i64 x] next head tail z er := by
  by_cases hR : ∃ qs, Rep next head tail qs
  · obtain ⟨qs, r⟩ := hR
    rcases in_cases x next.length with hx | ⟨xn, rfl, hxn, hx⟩
    · exact ⟨0, 1, fun A B D n a m b k d w hp => whereF_out A B D n a m b k d next head tail x qs r (by rw [← hp.x.1]; exact hx) w hp, fun A B D n a m b k d w hp => rwhereF_out A B D n a m b k d next head tail x qs r (by rw [← hp.x.1]; exact hx) w hp⟩
    · exact ⟨_, 0, fun A B D n a m b k d w hp => whereF_ok A B D n a m b k d next head tail xn qs r (by rw [← hp.x.1]; exact hx) w hp, fun A B D n a m b k d w hp => rwhereF_ok A B D n a m b k d next head tail xn qs r (by rw [← hp.x.1]; exact hx) w hp⟩
  · have hno : ∀ qs, ¬ Rep next head tail qs := fun qs r => hR ⟨qs, r⟩
    exact ⟨0, 1, fun A B D n a m b k d w hp => whereF_no A B D n a m b k d next head tail x hno w hp, fun A B D n a m b k d w hp => rwhereF_no A B D n a m b k d next head tail x hno w hp⟩

/-- Whether chains may be: the program's Check, and the document's Lists. -/
theorem may_both (next head tail : List Int) : ∃ (er : Int) (y : Bool), (er == 0) = y ∧
    (∀ (A B D : Option Addr) (n a m b k d : Nat) (w : World), Chn w A n B m D k next head tail → Calls Try.prog 29 #[.agg #[.slice A n a, .slice B m b, .slice D k d]] w (RetB (.int .i64 er) w)) ∧
    (∀ (A B D : Option Addr) (n a m b k d : Nat) (w : World), Chn w A n B m D k next head tail → Calls Try.prog 27 #[.agg #[.slice A n a, .slice B m b, .slice D k d]] w (fun e w' => ∃ H i C, e = .returned (.tuple #[.slice H i C, .bool y]) ∧ Below w.heap.size w w')) := by
  by_cases hR : ∃ qs, Rep next head tail qs
  · obtain ⟨qs, r⟩ := hR
    refine ⟨0, true, rfl, fun A B D n a m b k d w hp => check_yes A B D n a m b k d next head tail qs r w hp, fun A B D n a m b k d w hp => (rlists_any A B D n a m b k d next head tail w hp.x hp.h hp.t).mono ?_⟩
    rintro e w' ⟨hb, ⟨qs', r', h⟩ | ⟨hno, h⟩⟩
    · obtain ⟨H, C, hs, he, ho⟩ := h
      exact ⟨_, _, _, he, hb⟩
    · exact absurd r (hno qs)
  · have hno : ∀ qs, ¬ Rep next head tail qs := fun qs r => hR ⟨qs, r⟩
    refine ⟨1, false, rfl, fun A B D n a m b k d w hp => check_no A B D n a m b k d next head tail hno w hp, fun A B D n a m b k d w hp => (rlists_any A B D n a m b k d next head tail w hp.x hp.h hp.t).mono ?_⟩
    rintro e w' ⟨hb, ⟨qs', r', h⟩ | ⟨hno, h⟩⟩
    · exact absurd r' (hno qs')
    · exact ⟨_, _, _, h, hb⟩

theorem rsame_yes (A B D A' B' D' : Option Addr) (n a m b k d a' b' d' : Nat) (next head tail : List Int) (w : World) (hp : Chn w A n B m D k next head tail) (hq : Chn w A' n B' m D' k next head tail) :
    Calls Try.prog 20 #[.agg #[.slice A n a, .slice B m b, .slice D k d], .agg #[.slice A' n a', .slice B' m b', .slice D' k d']] w (RetB (.bool true) w) := by
  have := rsame_any A B D A' B' D' n a m b k d n a' m b' k d' next head tail next head tail w hp hq
  rwa [sameC_refl] at this
theorem same_yes (A B D A' B' D' : Option Addr) (n a m b k d a' b' d' : Nat) (next head tail : List Int) (w : World) (hp : Chn w A n B m D k next head tail) (hq : Chn w A' n B' m D' k next head tail) :
    Calls Try.prog 30 #[.agg #[.slice A n a, .slice B m b, .slice D k d], .agg #[.slice A' n a', .slice B' m b', .slice D' k d']] w (RetB (.bool true) w) := by
  have := same_any A B D A' B' D' n a m b k d n a' m b' k d' next head tail next head tail w hp hq
  rwa [sameC_refl] at this
theorem rsameInts_yes (A A' : Option Addr) (n a a' : Nat) (zs : List Int) (w : World) (hp : Ints w A n zs) (hq : Ints w A' n zs) :
    Calls Try.prog 28 #[.slice A n a, .slice A' n a'] w (RetB (.bool true) w) := by
  have := rsameInts_any A A' n a n a' zs zs w hp hq
  rwa [sameB_refl] at this

/-- A row does not lie in block g. -/
def Off (A : Option Addr) (n g : Nat) : Prop := 0 < n → ∀ b o s, A = some ⟨b, o, s⟩ → b ≠ g
def OffC (A : Option Addr) (n : Nat) (B : Option Addr) (m : Nat) (D : Option Addr) (k g : Nat) : Prop := Off A n g ∧ Off B m g ∧ Off D k g
theorem Ints.off {w : World} {A : Option Addr} {n g : Nat} {zs : List Int} (h : Ints w A n zs) (hg : w.heap.size ≤ g) : Off A n g := by
  intro hn b o s e
  obtain ⟨b', o', e', hb, _⟩ := h.2.2.2 hn
  rw [e'] at e
  injection e with e
  injection e with e1 _ _
  omega
theorem OwnI.off {E : TypeId} {w : World} {base g c : Nat} {A : Option Addr} {zs : List Int} (h : OwnI E w base A c zs) (hg : g < base) : Off A zs.length g := by
  intro hn b o s e
  obtain ⟨b', rfl, hb, _⟩ := h.form hn
  injection e with e
  injection e with e1 _ _
  omega
theorem Ints.far {w : World} {A : Option Addr} {n g : Nat} {zs : List Int} (h : Ints w A n zs) (ho : Off A n g) (j : Nat) (v : Value) : Ints (w.setCell ⟨g, j, none⟩ v) A n zs := by
  refine ⟨h.1, h.2.1, h.2.2.1, fun hn => ?_⟩
  obtain ⟨b, o, rfl, hb, hc⟩ := h.2.2.2 hn
  have hne := ho hn b o none rfl
  refine ⟨b, o, rfl, by simpa using hb, fun i hi => ?_⟩
  rw [World.cell?_setCell_other _ _ _ _ (fun e => by injection e with e1 _ _; exact hne e1.symm)]
  exact hc i hi
section
variable {w W : World} {A B D : Option Addr} {n m k a b d g : Nat} {next head tail : List Int}
theorem Chn.off (h : Chn w A n B m D k next head tail) (hg : w.heap.size ≤ g) : OffC A n B m D k g := ⟨h.x.off hg, h.h.off hg, h.t.off hg⟩
theorem OwnK.off {base : Nat} (h : OwnK w base A a B b D d next head tail) (hg : g < base) : OffC A next.length B head.length D tail.length g := ⟨h.c.x.off hg, h.c.h.off hg, h.c.t.off hg⟩
theorem Chn.far (h : Chn w A n B m D k next head tail) (ho : OffC A n B m D k g) (j : Nat) (v : Value) : Chn (w.setCell ⟨g, j, none⟩ v) A n B m D k next head tail := ⟨h.x.far ho.1 j v, h.h.far ho.2.1 j v, h.t.far ho.2.2 j v⟩
theorem Chn.store (h : Chn w A n B m D k next head tail) (ho : OffC A n B m D k g) (v0 v1 v2 : Value) :
    Chn (((w.setCell ⟨g, 0, none⟩ v0).setCell ⟨g, 1, none⟩ v1).setCell ⟨g, 2, none⟩ v2) A n B m D k next head tail := ((h.far ho 0 v0).far ho 1 v1).far ho 2 v2
end

theorem nth_drop (zs : List Int) (j p : Nat) : nth (zs.drop j) p = nth zs (j + p) := by simp [nth, List.getD, List.getElem?_drop]
theorem set_qth {qs : List (List Int)} {i : Nat} (hi : i < qs.length) : qs.set i (qth qs i) = qs := by rw [qth_get hi, List.set_getElem_self]

end Go.Proofs.Ytiheeehegjfmgaa

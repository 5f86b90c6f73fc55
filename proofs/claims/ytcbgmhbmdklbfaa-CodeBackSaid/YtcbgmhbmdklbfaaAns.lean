/-
  What Write and Read of layer 4 answer, in one form each: the program's and the document's.
-/
import Derived.Test.YtcbgmhbmdklbfaaRRead
import Derived.Test.YtcbgmhbmdklbfaaLive
import Derived.Test.YtcbgmhbmdklbfaaSameL
namespace Go.Proofs.Ytcbgmhbmdklbfaa
open Go.RowKit

open Classical in
/-- The text that is answered. -/
noncomputable def wtx (l : List (List I3)) : List Int := if okL l then txtL l else []
/-- The programs that are answered, and the error. -/
noncomputable def rtx (bs : List Int) : List (List I3) := (readA bs).getD []
noncomputable def rer (bs : List Int) : Int := if (readA bs).isSome then 0 else 2

theorem wtx_ok {l : List (List I3)} (h : okL l) : wtx l = txtL l := if_pos h
theorem wtx_no {l : List (List I3)} (h : ¬ okL l) : wtx l = [] := if_neg h
theorem wtx_len (l : List (List I3)) : (wtx l).length ≤ 2065 := by
  unfold wtx
  split
  · rename_i h; exact txtL_len h
  · simp
theorem rtx_some {bs : List Int} {l : List (List I3)} (h : readA bs = some l) : rtx bs = l := by unfold rtx; rw [h]; rfl
theorem rtx_none {bs : List Int} (h : readA bs = none) : rtx bs = [] := by unfold rtx; rw [h]; rfl
theorem rer_some {bs : List Int} {l : List (List I3)} (h : readA bs = some l) : rer bs = 0 := by unfold rer; rw [h]; rfl
theorem rer_none {bs : List Int} (h : readA bs = none) : rer bs = 2 := by unfold rer; rw [h]; rfl

def WAns (l : List (List I3)) (w : World) (e : Ending) (w' : World) : Prop :=
  ∃ A m c, e = .returned (.tuple #[.slice A m c, .int .i64 (errL l)]) ∧ (wtx l).length = m ∧ OwnO 5 w' w.heap.size A c (wtx l) ∧ Below w.heap.size w w'
def RAns (bs : List Int) (w : World) (e : Ending) (w' : World) : Prop :=
  ∃ A m c, e = .returned (.tuple #[.slice A m c, .int .i64 (rer bs)]) ∧ Prgs w' A m (rtx bs) ∧ Below w.heap.size w w'

theorem WriteAns.uni {l : List (List I3)} {w w' : World} {e : Ending} (h : WriteAns l w e w') : WAns l w e w' := by
  rcases h with ⟨ho, A, c, he, hown, hb⟩ | ⟨ho, he, hb⟩
  · exact ⟨A, _, c, by rw [errL_ok ho]; exact he, by rw [wtx_ok ho], by rw [wtx_ok ho]; exact hown, hb⟩
  · exact ⟨none, 0, 0, by rw [errL_no ho]; exact he, by rw [wtx_no ho]; rfl, by rw [wtx_no ho]; exact OwnO.nil_ _ _ _, hb⟩
theorem ReadAns.uni {bs : List Int} {w w' : World} {e : Ending} (h : ReadAns bs w e w') : RAns bs w e w' := by
  rcases h with ⟨l, A, c, hr, he, hp, hb⟩ | ⟨hr, he, hb⟩
  · exact ⟨A, _, c, by rw [rer_some hr]; exact he, by rw [rtx_some hr]; exact hp, hb⟩
  · exact ⟨none, 0, 0, by rw [rer_none hr]; exact he, by rw [rtx_none hr]; exact Prgs.nil_ _ _, hb⟩

theorem Octs.octB {w : World} {A : Option Addr} {n c : Nat} {zs : List Int} (h : Octs w A n zs) (hm : n ≤ c ∧ c ≤ 9223372036854775807) : OctB w.heap.size w A n c zs := ⟨h.1, hm, h.2.2.1, h.2.2.2⟩

theorem OwnO.cap {E : TypeId} {w : World} {base : Nat} {A : Option Addr} {c : Nat} {zs : List Int} (h : OwnO E w base A c zs) : zs.length ≤ c ∨ (A = none ∧ zs.length = 0 ∧ c = 0) := by
  rcases h.2.2.2 with ⟨h1, h2⟩ | ⟨g, cap, cur, e, _, _, h3, _⟩
  · injection h1 with h1 _ h4
    exact .inr ⟨h1, h2, h4⟩
  · injection e with _ _ e3
    subst e3
    exact .inl h3

theorem uwrite (A : Option Addr) (n c : Nat) (l : List (List I3)) (w : World) (hp : Prgs w A n l) : Calls Try.prog 22 #[.slice A n c] w (WAns l w) := (write_any A n c l w hp).mono fun _ _ h => h.uni
theorem urwrite (A : Option Addr) (n c : Nat) (l : List (List I3)) (w : World) (hp : Prgs w A n l) : Calls Try.prog 23 #[.slice A n c] w (WAns l w) := (rwrite_any A n c l w hp).mono fun _ _ h => h.uni
theorem uread (A : Option Addr) (n c : Nat) (bs : List Int) (w : World) (h : Octs w A n bs) (hm : n ≤ c ∧ c ≤ 9223372036854775807) (hn : n ≤ 3000) : Calls Try.prog 24 #[.slice A n c] w (RAns bs w) := (read_any A n c bs w (h.octB hm) hn).mono fun _ _ h => h.uni
theorem urread (A : Option Addr) (n c : Nat) (bs : List Int) (w : World) (h : Octs w A n bs) (hn : n ≤ 3000) : Calls Try.prog 25 #[.slice A n c] w (RAns bs w) := (rread_any A n c bs w h hn).mono fun _ _ h => h.uni

end Go.Proofs.Ytcbgmhbmdklbfaa

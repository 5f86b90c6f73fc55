/-
  What the law RingSolo of layer 7 leans on: a deque's numbers are told, and what stays true round by round.
-/
import Derived.Test.YtfmiamjbhlglbaaSe
import Derived.Test.YtfmiamjbhlglbaaSf
import Derived.Test.YtfmiamjbhlglbaaPRow
import Derived.Test.YtfmiamjbhlglbaaQue
namespace Go.Proofs.Ytfmiamjbhlglbaa
open Go.RowKit

theorem dq_list {ms l : List Int} {base cap tp : Nat} (d : DqI ms base cap tp l) (hq : MayQ ms.length base cap) : listF ms base cap = (0, l) := by
  have htop := d.rg.top
  have hbot := d.bot
  have hfew := d.few
  have hroom := d.rg.room
  unfold listF
  rw [if_pos hq, Int.toNat_natCast, Int.toNat_natCast, htop, hbot, if_pos (by unfold LstOk cntOk; rw [htop, hbot]; omega)]
  congr 1
  have hk : (((tp + l.length : Nat) : Int) - (tp : Int)).toNat = l.length := by omega
  rw [hk]
  refine ext_nth (lstP_len ..) fun i hi => ?_
  rw [lstP_len] at hi
  rw [nth_get (by rw [lstP_len]; exact hi)]
  unfold lstP
  rw [List.getElem_map, List.getElem_range]
  have e : (tp : Int) + (i : Nat) = ((tp + i : Nat) : Int) := by omega
  rw [e, slI_nat]
  exact d.sl i hi

theorem OwnQ.init {E : TypeId} {w : World} {base : Nat} {A : Option Addr} {c : Nat} {zs : List Int} (h : OwnQ E w base A c zs) (k : Nat) (hk : k ≤ zs.length) : OwnQ E w base A c (zs.take k) := by
  refine ⟨by have := h.1; rw [List.length_take]; omega, fun z hz => h.2.1 z (List.mem_of_mem_take hz), ?_⟩
  rcases h.2.2 with ⟨e1, e2, e3⟩ | ⟨g, o, cs, e, hb, hbk, h1, h2, h3, h4⟩
  · exact .inl ⟨e1, by rw [e2]; simp, e3⟩
  · refine .inr ⟨g, o, cs, e, hb, hbk, by rw [List.length_take]; omega, h2, h3, fun j hj => ?_⟩
    rw [List.length_take] at hj
    rw [h4 j (by omega)]
    simp only [nth, List.getD, List.getElem?_take]
    rw [if_pos (by omega)]
theorem Ints.grown {w w' : World} {A : Option Addr} {n : Nat} {zs : List Int} (h : Ints w A n zs) {row : Option Nat} (hg : w.grownBy w' row) (hne : ∀ a, A = some a → some a.block ≠ row) : Ints w' A n zs :=
  ⟨h.1, h.2.1, h.2.2.1, fun hn => by
    obtain ⟨b, o, e, hb, hc⟩ := h.2.2.2 hn
    exact ⟨b, o, e, Nat.lt_of_lt_of_le hb hg.size, fun j hj => (grown_cell hg (p := ⟨b, o + j, none⟩) hb (hne ⟨b, o, none⟩ e)).trans (hc j hj)⟩⟩

/-- The round of RingSolo. -/
structure SlI (W w1 : World) (s rm a0 i : Nat) (A : Option Addr) (ms : List Int) (Al : Option Addr) (cl : Nat) (l : List Int) (tp : Nat) : Prop where
  im : Ints W A ms.length ms
  ln : ms.length = rm + 4
  ql : OwnQ 2 W w1.heap.size Al cl l
  q : Bk W s 25 #[.int .i64 1, .int .i64 rm]
  bl : Below w1.heap.size w1 W
  dq : DqI ms 1 rm tp l
  few : tp + l.length ≤ a0 + i
  z0 : nth ms 0 = 0
  z1 : nth ms (rm + 3) = 0

end Go.Proofs.Ytfmiamjbhlglbaa

/-
  RingOnce (layer 7): an octet's bits, and whose turn it is.
-/
import Derived.Test.YtfmiamjbhlglbaaOnR
import Derived.Test.YtfmiamjbhlglbaaOct
import Derived.Maps.RangeWalk
namespace Go.Proofs.Ytfmiamjbhlglbaa
open Go.RowKit Go.Maps

theorem wrap_u8n (n : Nat) (h : n < 256) : IntKind.u8.wrap (n : Int) = n := by
  rw [IntKind.wrap_u8]; omega
theorem and_u8 (a : Int) (m : Nat) (hm : m < 256) : ∃ r : Nat, r ≤ m ∧ bits .and .u8 a m = r := by
  refine ⟨(BitVec.ofInt 8 a &&& BitVec.ofInt 8 (m : Int)).toNat, ?_, ?_⟩
  · rw [BitVec.toNat_and, BitVec.ofInt_natCast, BitVec.toNat_ofNat, Nat.mod_eq_of_lt hm]
    exact Nat.and_le_right
  · exact wrap_u8n _ (BitVec.isLt _)
theorem rem_i64 (r m : Nat) : (r : Int).tmod ((m : Int) + 1) = ((r % (m + 1) : Nat) : Int) := by
  rw [Int.tmod_eq_emod_of_nonneg (by omega)]; simp

theorem OnI.drew {w0 w : World} {g b N cap k : Nat} {mA : Option Addr} {mc : Nat} {ms : List Int} {gh hcp : Nat} {hs : List Hd} {n : Nat} {G : Int → Nat} {nx left tp lb : Nat}
    (h : OnI w0 w g b N cap k mA mc ms gh hcp hs n G nx left tp lb) : OnI w0 w.drew g b N cap k mA mc ms gh hcp hs n G nx left tp lb := by
  obtain ⟨h1, h2, h3, h4, h5, h6, h7, h8, h9⟩ := h
  exact ⟨h1.drew, h2.below (Below.refl _ _).drew, h3, h4, h5, h6, h7, h8, h9.drew⟩

theorem OnI.no_more {w0 w : World} {g b N cap k : Nat} {mA : Option Addr} {mc : Nat} {ms : List Int} {gh hcp : Nat} {hs : List Hd} {n : Nat} {G : Int → Nat} {nx left tp lb : Nat}
    (h : OnI w0 w g b N cap k mA mc ms gh hcp hs n G nx left tp lb) : OnI w0 (w.setCell ⟨g, 6, none⟩ (.int .i64 0)) g b N cap k mA mc ms gh hcp hs n G nx 0 tp lb := by
  obtain ⟨h1, h2, h3, h4, h5, h6, h7, h8, h9⟩ := h
  have hgb := h2.g.ne_bk h1
  have hA := ints_no_race h2.m (by have := h3.len; have := h3.rg.c1; omega) h1 (fun z => by simp) (fun z => by simp)
  have hH := hands_no_race h2.h h3.pos h1 (by unfold raceC; rfl)
  have G8 := grown_set (w := w) (g := g) (i := 6) (.int .i64 0)
  refine ⟨h1.set_ 6 (.int .i64 0), ⟨h2.m.grown G8 (fun a e e' => by injection e' with e'; exact hA a e e'), h2.h.grown G8 (fun k hk a e => by injection hk with hk; injection e with e; subst hk e; exact hH), h2.g.grown G8 (fun e => by injection e with e; exact hgb e.symm)⟩, h3.no_more, h4, h5, h6, h7, h8, ?_⟩
  exact h9.setCell (p := ⟨g, 6, none⟩) h7 _

/-- All up to one are done. -/
def OutR (w0 wr : World) (g b N rm k who : Nat) : Prop :=
  ∃ mA mc ms gh hcp hs nn G nx tp lb, OnI w0 wr g b N rm k mA mc ms gh hcp hs nn G nx 0 tp lb ∧ DoneTo hs who
/-- .. and that one goes on. -/
def InnR (w0 wr : World) (g b N rm k who j : Nat) : Prop :=
  ∃ mA mc ms gh hcp hs nn G nx tp lb, OnI w0 wr g b N rm k mA mc ms gh hcp hs nn G nx 0 tp lb ∧ DoneTo hs who ∧ FarT (hth hs who) j
theorem OutR.start {w0 wr : World} {g b N rm k : Nat} {mA : Option Addr} {mc : Nat} {ms : List Int} {gh hcp : Nat} {hs : List Hd} {n : Nat} {G : Int → Nat} {nx tp lb : Nat} (h : OnI w0 wr g b N rm k mA mc ms gh hcp hs n G nx 0 tp lb) : OutR w0 wr g b N rm k 0 :=
  ⟨mA, mc, ms, gh, hcp, hs, n, G, nx, tp, lb, h, fun i hi => by omega⟩
theorem OnI.more {w0 wr : World} {g b N rm k k' : Nat} {mA : Option Addr} {mc : Nat} {ms : List Int} {gh hcp : Nat} {hs : List Hd} {n : Nat} {G : Int → Nat} {nx left tp lb : Nat} (h : OnI w0 wr g b N rm k mA mc ms gh hcp hs n G nx left tp lb) (hk : k ≤ k') : OnI w0 wr g b N rm k' mA mc ms gh hcp hs n G nx left tp lb := by
  obtain ⟨h1, h2, h3, h4, h5, h6⟩ := h
  exact ⟨h1, h2, h3, h4, by omega, h6⟩
theorem OutR.inn {w0 wr : World} {g b N rm k who : Nat} (h : OutR w0 wr g b N rm k who) (hw : who < N) : InnR w0 wr g b N rm k who 0 := by
  obtain ⟨mA, mc, ms, gh, hcp, hs, nn, G, nx, tp, lb, h1, h2⟩ := h
  refine ⟨mA, mc, ms, gh, hcp, hs, nn, G, nx, tp, lb, h1, h2, ?_⟩
  by_cases hk : (hth hs who).kind = 0
  · exact .inl hk
  · have := (h1.2.2.1.may who (by have := h1.2.2.2.1; omega) hk).1
    exact .inr (.inr (by omega))
theorem InnR.out {w0 wr : World} {g b N rm k who : Nat} (h : InnR w0 wr g b N rm k who 10) (hw : who < N) : OutR w0 wr g b N rm k (who + 1) := by
  obtain ⟨mA, mc, ms, gh, hcp, hs, nn, G, nx, tp, lb, h1, h2, h3⟩ := h
  refine ⟨mA, mc, ms, gh, hcp, hs, nn, G, nx, tp, lb, h1, fun i hi => ?_⟩
  by_cases e : i = who
  · subst e
    exact h3.done (h1.2.2.1.may i (by have := h1.2.2.2.1; omega))
  · exact h2 i (by omega)

/-- The end: the race as it lies, what is there, the map. -/
structure EndI (w0 w : World) (g b : Nat) (R : Array Value) (A : Option Addr) (l : List Int) (n : Nat) (G : Int → Nat) : Prop where
  rc : Bk w g 49 R
  ls : Ints w A l.length l
  mp : CMap w b n G
  hb : w0.heap.size ≤ b
  bl : Below w0.heap.size w0 w
theorem ints_no_map {w : World} {A : Option Addr} {n : Nat} {l : List Int} (h : Ints w A n l) (hn : 0 < n) {b m : Nat} {G : Int → Nat} (hg : CMap w b m G) : ∀ a, A = some a → a.block ≠ b := by
  rintro a rfl e
  obtain ⟨c, o, e1, -, hc⟩ := h.2.2.2 hn
  injection e1 with e1
  subst e1
  obtain ⟨D, ks, hD⟩ := hg
  obtain ⟨es, clock, hb, _⟩ := hD.own
  have h0 := hc 0 hn
  simp only at e
  subst e
  simp [World.cell?, hb] at h0
theorem EndI.step {w0 w w' : World} {g b : Nat} {R : Array Value} {A : Option Addr} {l : List Int} {n n' : Nat} {G G' : Int → Nat} (h : EndI w0 w g b R A l n G) (hl : 0 < l.length) (hg : w.grownBy w' (some b)) (hm : CMap w' b n' G') : EndI w0 w' g b R A l n' G' := by
  have hgb := h.mp.ne_bk h.rc
  have hA := ints_no_map h.ls hl h.mp
  exact ⟨h.rc.grown hg (fun q => hgb (by injection q)), h.ls.grown hg (fun a e e' => by injection e' with e'; exact hA a e e'), hm, h.hb, below_grown h.bl hg (fun j hj => by injection hj with hj; exact hj ▸ h.hb) h.bl.size⟩

end Go.Proofs.Ytfmiamjbhlglbaa

/-
  RingOnce (layer 7): its hands as they are made; the race as it lies at the loops, and what a step leaves of it.
-/
import Derived.Test.YtfmiamjbhlglbaaStd
import Derived.Test.YtfmiamjbhlglbaaOnM
import Derived.Test.YtfmiamjbhlglbaaSe
namespace Go.Proofs.Ytfmiamjbhlglbaa
open Go.RowKit Go.Maps

/-- make([]Hand, n). -/
theorem mkHands (n : Nat) (h : n ≤ 1000) (W : World) : (Instr.makeSlice 46 (.int .i64 (n : Int)) (.int .i64 (n : Int))).run Try.prog W = .ok (.slice (some ⟨W.heap.size, 0, none⟩) n n) (W.alloc (.cells (madeCells (hc noH) (n * 7)) 27)) := by
  obtain ⟨i, hi, hz0, hz1, hz2⟩ := info_parts infoH
  have hr := run_make (P := Try.prog) W 46 27 i _ Try.underlying46 hi hz0 .i64 .i64 n n (by omega) (Int.le_refl _) (by rw [hz2]; omega) (by omega)
  simp only [Int.toNat_natCast, hz1] at hr
  exact hr
theorem hands_zero (W : World) (base n : Nat) (hb : base ≤ W.heap.size) (z : Array Value) (hz : madeCells (hc noH) (n * 7) = z) : OwnH (W.alloc (.cells z 27)) base (some ⟨W.heap.size, 0, none⟩) (List.replicate n noH) := by
  subst hz
  refine ⟨W.heap.size, _, rfl, hb, Bk.new W 27 _, by simp [size_madeCells], fun i hi j hj => ?_⟩
  rw [List.length_replicate] at hi
  have e : hth (List.replicate n noH) i = noH := by
    simp only [hth, List.getD, List.getElem?_replicate]
    split <;> rfl
  rw [e]
  have hlt : i * 7 + j < n * 7 := by omega
  have h7 : (hc noH).size = 7 := rfl
  unfold madeCells
  rw [Array.getElem?_map, Array.getElem?_range, if_pos hlt, Option.map_some, h7, show (i * 7 + j) % 7 = j by omega]
  have hj' : j < (hc noH).size := by rw [h7]; exact hj
  rw [getElem!_pos (hc noH) j hj', Array.getElem?_eq_getElem hj']

/-- The race in its block g, its map in block b, at most k numbers got so far; nothing of the caller's has changed. -/
def OnI (w0 w : World) (g b N cap k : Nat) (mA : Option Addr) (mc : Nat) (ms : List Int) (gh hcp : Nat) (hs : List Hd) (n : Nat) (G : Int → Nat) (nx left tp lb : Nat) : Prop :=
  Bk w g 49 (raceC (.slice mA ms.length mc) cap (.slice (some ⟨gh, 0, none⟩) hs.length hcp) b nx left) ∧ RcI w mA ms gh hs b n G ∧ RaceI cap ms hs G nx left tp lb ∧ hs.length = N ∧ n ≤ k ∧ (∀ i, i < hs.length → Fit (hth hs i).v) ∧ w0.heap.size ≤ g ∧ w0.heap.size ≤ b ∧ Below w0.heap.size w0 w
theorem RaceI.mayq {cap nx left tp lb : Nat} {ms : List Int} {hs : List Hd} {G : Int → Nat} (r : RaceI cap ms hs G nx left tp lb) (hc : cap ≤ 6) : MayQ ms.length 0 cap := by
  have h1 := r.len
  have h2 := r.rg.c1
  unfold MayQ
  omega

theorem ints_no_race {w : World} {mA : Option Addr} {n : Nat} {ms : List Int} (h : Ints w mA n ms) (hn : 3 ≤ n) {g : Nat} {t : TypeId} {M H : Value} {cap b nx left : Nat} (hk : Bk w g t (raceC M cap H b nx left)) (hM : ∀ z, M ≠ .int .i64 z) (hH : ∀ z, H ≠ .int .i64 z) : ∀ a, mA = some a → a.block ≠ g := by
  rintro a rfl e
  obtain ⟨c, o, e1, -, hc⟩ := h.2.2.2 (by omega)
  injection e1 with e1
  subst e1
  simp only at e
  subst e
  have h0 := hc 0 (by omega)
  have h1 := hc 1 (by omega)
  have h2 := hc 2 (by omega)
  have k0 := (hk.cell (o + 0)).symm.trans h0
  have k1 := (hk.cell (o + 1)).symm.trans h1
  have k2 := (hk.cell (o + 2)).symm.trans h2
  unfold raceC at k0 k1 k2
  have ho : o = 0 ∨ o = 1 ∨ o = 2 ∨ o = 3 ∨ o = 4 ∨ o = 5 ∨ o = 6 ∨ o = 7 ∨ 8 ≤ o := by omega
  rcases ho with rfl | rfl | rfl | rfl | rfl | rfl | rfl | rfl | ho
  · simp at k0; exact hM _ k0
  · simp at k2; exact hH _ k2
  · simp at k1; exact hH _ k1
  · simp at k0; exact hH _ k0
  · simp at k0
  · simp at k2
  · simp at k1
  · simp at k0
  · rw [Array.getElem?_eq_none (by simpa using ho)] at k0; cases k0
theorem hands_no_race {w : World} {gh : Nat} {hs : List Hd} (h : OwnH w 0 (some ⟨gh, 0, none⟩) hs) (h0 : 0 < hs.length) {g : Nat} {t : TypeId} {cs : Array Value} {A : Option Addr} {n c : Nat} (hk : Bk w g t cs) (hM : cs[0]? = some (.slice A n c)) : gh ≠ g := by
  rintro rfl
  have h1 := (h.at_ h0).1 0 (by omega)
  have h2 := (hk.cell 0).trans hM
  rw [Nat.zero_mul] at h1
  rw [h2] at h1
  simp [hc] at h1

section
variable {w0 w w' : World} {g b N cap k : Nat} {mA : Option Addr} {mc : Nat} {ms : List Int} {gh hcp : Nat} {hs : List Hd} {n : Nat} {G : Int → Nat} {nx left tp lb : Nat}
theorem below_grown {B : Nat} (h : Below B w0 w) {row : Option Nat} (hg : w.grownBy w' row) (hr : ∀ k, row = some k → B ≤ k) (hB : B ≤ w.heap.size) : Below B w0 w' :=
  ⟨hg.os.trans h.os, hg.tape.trans h.tape, hg.output.trans h.output, Nat.le_trans h.size hg.size, fun j hj => (hg.block j (by omega) (fun e => by have := hr j e.symm; omega)).trans (h.block j hj)⟩
/-- Behind a step, its answer stored. -/
theorem OnI.stored (h : OnI w0 w g b N cap k mA mc ms gh hcp hs n G nx left tp lb) {n' : Nat} {ms' : List Int} {hs' : List Hd} {G' : Int → Nat} {nx' left' tp' lb' : Nat} {e : Ending}
    (hs1 : StpOf cap b n' w ms' hs' G' nx' left' e w') (hI : RaceI cap ms' hs' G' nx' left' tp' lb') (hN : hs'.length = N) (hn : n' ≤ k + 1) (hF : ∀ i, i < hs'.length → Fit (hth hs' i).v) :
    ∃ mA' mc' gh' hcp', e = .returned (.agg (raceC (.slice mA' ms'.length mc') cap (.slice (some ⟨gh', 0, none⟩) hs'.length hcp') b nx' left')) ∧
      Bk w' g 49 (raceC (.slice mA ms.length mc) cap (.slice (some ⟨gh, 0, none⟩) hs.length hcp) b nx left) ∧
      OnI w0 (set8 w' g (.slice mA' ms'.length mc') (.int .i64 0) (.int .i64 cap) (.slice (some ⟨gh', 0, none⟩) hs'.length hcp') (.map (some b)) (.int .i64 nx') (.int .i64 left') (.bool false)) g b N cap (k + 1) mA' mc' ms' gh' hcp' hs' n' G' nx' left' tp' lb' := by
  obtain ⟨h1, h2, h3, h4, h5, h6, h7, h8, h9⟩ := h
  obtain ⟨mA', mc', gh', hcp', he, hr, hg⟩ := hs1
  have hgb := h2.g.ne_bk h1
  have h1' := h1.grown hg (fun q => hgb (by injection q))
  have G8 := grown_set8 w' g (.slice mA' ms'.length mc') (.int .i64 0) (.int .i64 cap) (.slice (some ⟨gh', 0, none⟩) hs'.length hcp') (.map (some b)) (.int .i64 nx') (.int .i64 left') (.bool false)
  have hA := ints_no_race hr.m (by have := hI.len; have := hI.rg.c1; omega) h1' (fun z => by simp) (fun z => by simp)
  have hH := hands_no_race hr.h hI.pos h1' (by unfold raceC; rfl)
  refine ⟨mA', mc', gh', hcp', he, h1', bk_set8 h1' _ _ _ _ _ _ _ _, ⟨hr.m.grown G8 (fun a e e' => by injection e' with e'; exact hA a e e'), hr.h.grown G8 (fun k hk a e => by injection hk with hk; injection e with e; subst hk e; exact hH), hr.g.grown G8 (fun e => by injection e with e; exact hgb e.symm)⟩, hI, hN, hn, hF, h7, h8, ?_⟩
  exact below_set8 (below_grown h9 hg (fun j hj => by injection hj with hj; omega) h9.size) h7 _ _ _ _ _ _ _ _
end

end Go.Proofs.Ytfmiamjbhlglbaa

/-
  Each access of the table is what the document says of it (layer 7).
-/
import Derived.Test.YtfmiamjbhlglbaaNx
namespace Go.Proofs.Ytfmiamjbhlglbaa
open Go.RowKit Go.Maps

/-- The next place, if the hand is going and its place has not been told. -/
def bump (h h1 : Hd) : Hd := if h1.state = 0 ∧ h1.pc = h.pc then { h1 with pc := h1.pc + 1 } else h1
/-- What an access leaves. -/
def AcOf (g : Nat) (h : Hd) (base cap : Nat) (w : World) (o : Option (List Int × Hd)) (e : Ending) (w' : World) : Prop :=
  match o with
  | none => MetE g w e w'
  | some r => ∃ h1, Met g 0 h1 base cap r.1 w e w' ∧ r.2 = bump h h1

section
variable (w : World) (g : Nat) (base cap : Nat) (ms : List Int) (A : Option Addr) (c : Nat) (v t b : Int) (wn : Bool)

theorem access_1_0 (hR : Rch w g ⟨1, 0, v, t, b, wn, 0⟩ base cap ms A c) (D : Dq base cap ms) (hb : HdB ⟨1, 0, v, t, b, wn, 0⟩) :
    Calls Try.prog 39 #[.pointer (some ⟨g, 0, none⟩)] w (AcOf g ⟨1, 0, v, t, b, wn, 0⟩ base cap w (accF ms base cap ⟨1, 0, v, t, b, wn, 0⟩)) := by
  by_cases hc : cntOk (nth ms base) 0
  · rw [show accF ms base cap ⟨1, 0, v, t, b, wn, 0⟩ = some (ms, ⟨1, 1, v, nth ms base, b, wn, 0⟩) from by simp [accF, pushF, hc]]
    exact (loadtop_ok w g _ base cap ms A c hR D hb _ rfl hc).mono fun _ _ q => ⟨_, q, by simp [bump]⟩
  · rw [show accF ms base cap ⟨1, 0, v, t, b, wn, 0⟩ = none from by simp [accF, pushF, hc]]
    exact (loadtop_no w g _ base cap ms A c hR D hb _ rfl hc).mono fun _ _ q => ⟨q.1, q.2.1⟩

theorem access_3_0 (hR : Rch w g ⟨3, 0, v, t, b, wn, 0⟩ base cap ms A c) (D : Dq base cap ms) (hb : HdB ⟨3, 0, v, t, b, wn, 0⟩) :
    Calls Try.prog 39 #[.pointer (some ⟨g, 0, none⟩)] w (AcOf g ⟨3, 0, v, t, b, wn, 0⟩ base cap w (accF ms base cap ⟨3, 0, v, t, b, wn, 0⟩)) := by
  by_cases hc : cntOk (nth ms base) 0
  · rw [show accF ms base cap ⟨3, 0, v, t, b, wn, 0⟩ = some (ms, ⟨3, 1, v, nth ms base, b, wn, 0⟩) from by simp [accF, stealF, hc]]
    exact (loadtop_ok w g _ base cap ms A c hR D hb _ rfl hc).mono fun _ _ q => ⟨_, q, by simp [bump]⟩
  · rw [show accF ms base cap ⟨3, 0, v, t, b, wn, 0⟩ = none from by simp [accF, stealF, hc]]
    exact (loadtop_no w g _ base cap ms A c hR D hb _ rfl hc).mono fun _ _ q => ⟨q.1, q.2.1⟩

theorem access_2_0 (hR : Rch w g ⟨2, 0, v, t, b, wn, 0⟩ base cap ms A c) (D : Dq base cap ms) (hb : HdB ⟨2, 0, v, t, b, wn, 0⟩) :
    Calls Try.prog 43 #[.pointer (some ⟨g, 0, none⟩)] w (AcOf g ⟨2, 0, v, t, b, wn, 0⟩ base cap w (accF ms base cap ⟨2, 0, v, t, b, wn, 0⟩)) := by
  by_cases hc : cntOk (nth ms (base + 1)) 0
  · rw [show accF ms base cap ⟨2, 0, v, t, b, wn, 0⟩ = some (ms, ⟨2, 1, v, t, nth ms (base + 1), wn, 0⟩) from by simp [accF, popF, hc]]
    exact (loadbottom_ok w g _ base cap ms A c hR D hb _ rfl hc).mono fun _ _ q => ⟨_, q, by simp [bump]⟩
  · rw [show accF ms base cap ⟨2, 0, v, t, b, wn, 0⟩ = none from by simp [accF, popF, hc]]
    exact (loadbottom_no w g _ base cap ms A c hR D hb _ rfl hc).mono fun _ _ q => ⟨q.1, q.2.1⟩

theorem access_1_1 (hR : Rch w g ⟨1, 1, v, t, b, wn, 0⟩ base cap ms A c) (D : Dq base cap ms) (hb : HdB ⟨1, 1, v, t, b, wn, 0⟩) :
    Calls Try.prog 40 #[.pointer (some ⟨g, 0, none⟩)] w (AcOf g ⟨1, 1, v, t, b, wn, 0⟩ base cap w (accF ms base cap ⟨1, 1, v, t, b, wn, 0⟩)) := by
  by_cases hc : cntOk (nth ms (base + 1)) 0
  · by_cases hl : (cap : Int) ≤ nth ms (base + 1) - t
    · rw [show accF ms base cap ⟨1, 1, v, t, b, wn, 0⟩ = some (ms, ⟨1, 1, v, t, nth ms (base + 1), wn, 3⟩) from by simp [accF, pushF, hc, hl]]
      exact (seeroom_ok1 w g _ base cap ms A c hR D hb _ rfl hc hl).mono fun _ _ q => ⟨_, q, by simp [bump]⟩
    · rw [show accF ms base cap ⟨1, 1, v, t, b, wn, 0⟩ = some (ms, ⟨1, 2, v, t, nth ms (base + 1), wn, 0⟩) from by simp [accF, pushF, hc, hl]]
      exact (seeroom_ok0 w g _ base cap ms A c hR D hb _ rfl hc hl).mono fun _ _ q => ⟨_, q, by simp [bump]⟩
  · by_cases hl : (cap : Int) ≤ -t
    · rw [show accF ms base cap ⟨1, 1, v, t, b, wn, 0⟩ = none from by simp [accF, pushF, hc]]
      exact seeroom_no1 w g _ base cap ms A c hR D hb _ rfl hc hl
    · rw [show accF ms base cap ⟨1, 1, v, t, b, wn, 0⟩ = none from by simp [accF, pushF, hc]]
      exact seeroom_no0 w g _ base cap ms A c hR D hb _ rfl hc hl

theorem access_1_2 (hR : Rch w g ⟨1, 2, v, t, b, wn, 0⟩ base cap ms A c) (D : Dq base cap ms) (hb : HdB ⟨1, 2, v, t, b, wn, 0⟩) :
    Calls Try.prog 41 #[.pointer (some ⟨g, 0, none⟩)] w (AcOf g ⟨1, 2, v, t, b, wn, 0⟩ base cap w (accF ms base cap ⟨1, 2, v, t, b, wn, 0⟩)) := by
  by_cases hn : b < 0
  · rw [show accF ms base cap ⟨1, 2, v, t, b, wn, 0⟩ = none from by simp [accF, pushF, hn]]
    exact storenumber_no w g _ base cap ms A c hR D hb hn
  · rw [show accF ms base cap ⟨1, 2, v, t, b, wn, 0⟩ = some (ms.set (slI base cap b) v, ⟨1, 3, v, t, b, wn, 0⟩) from by simp [accF, pushF, hn]]
    exact (storenumber_ok w g _ base cap ms A c hR D hb (Int.not_lt.1 hn)).mono fun _ _ q => ⟨_, q, by simp [bump]⟩

theorem access_1_3 (hR : Rch w g ⟨1, 3, v, t, b, wn, 0⟩ base cap ms A c) (D : Dq base cap ms) (hb : HdB ⟨1, 3, v, t, b, wn, 0⟩) :
    Calls Try.prog 42 #[.pointer (some ⟨g, 0, none⟩)] w (AcOf g ⟨1, 3, v, t, b, wn, 0⟩ base cap w (accF ms base cap ⟨1, 3, v, t, b, wn, 0⟩)) := by
  by_cases hn : b < 0
  · rw [show accF ms base cap ⟨1, 3, v, t, b, wn, 0⟩ = none from by simp [accF, pushF, hn]]
    exact raisebottom_no w g _ base cap ms A c hR D hb hn
  · rw [show accF ms base cap ⟨1, 3, v, t, b, wn, 0⟩ = some (ms.set (base + 1) (b + 1), ⟨1, 3, v, t, b, wn, 1⟩) from by simp [accF, pushF, hn]]
    exact (raisebottom_ok w g _ base cap ms A c hR D hb (Int.not_lt.1 hn)).mono fun _ _ q => ⟨_, q, by simp [bump]⟩

theorem access_2_1 (hR : Rch w g ⟨2, 1, v, t, b, wn, 0⟩ base cap ms A c) (D : Dq base cap ms) (hb : HdB ⟨2, 1, v, t, b, wn, 0⟩) :
    Calls Try.prog 44 #[.pointer (some ⟨g, 0, none⟩)] w (AcOf g ⟨2, 1, v, t, b, wn, 0⟩ base cap w (accF ms base cap ⟨2, 1, v, t, b, wn, 0⟩)) := by
  by_cases hn : b < 0
  · rw [show accF ms base cap ⟨2, 1, v, t, b, wn, 0⟩ = none from by simp [accF, popF, (show ¬ (-1 ≤ b - 1) by omega)]]
    exact lowerbottom_no w g _ base cap ms A c hR D hb hn
  · rw [show accF ms base cap ⟨2, 1, v, t, b, wn, 0⟩ = some (ms.set (base + 1) (b - 1), ⟨2, 2, v, t, (b - 1), wn, 0⟩) from by simp [accF, popF, (show -1 ≤ b - 1 by omega)]]
    exact (lowerbottom_ok w g _ base cap ms A c hR D hb (Int.not_lt.1 hn)).mono fun _ _ q => ⟨_, q, by simp [bump]⟩

theorem access_2_2 (hR : Rch w g ⟨2, 2, v, t, b, wn, 0⟩ base cap ms A c) (D : Dq base cap ms) (hb : HdB ⟨2, 2, v, t, b, wn, 0⟩) :
    Calls Try.prog 45 #[.pointer (some ⟨g, 0, none⟩)] w (AcOf g ⟨2, 2, v, t, b, wn, 0⟩ base cap w (accF ms base cap ⟨2, 2, v, t, b, wn, 0⟩)) := by
  by_cases hc : cntOk (nth ms base) 0
  · by_cases hl : nth ms base ≤ b
    · rw [show accF ms base cap ⟨2, 2, v, t, b, wn, 0⟩ = some (ms, ⟨2, 4, v, nth ms base, b, wn, 0⟩) from by simp [accF, popF, hc, (show ¬ (b < nth ms base) by omega)]]
      exact (seeany_ok1 w g _ base cap ms A c hR D hb _ rfl hc hl).mono fun _ _ q => ⟨_, q, by simp [bump]⟩
    · rw [show accF ms base cap ⟨2, 2, v, t, b, wn, 0⟩ = some (ms, ⟨2, 3, v, nth ms base, b, wn, 0⟩) from by simp [accF, popF, hc, (show b < nth ms base by omega)]]
      exact (seeany_ok0 w g _ base cap ms A c hR D hb _ rfl hc hl).mono fun _ _ q => ⟨_, q, by simp [bump]⟩
  · by_cases hl : 0 ≤ b
    · rw [show accF ms base cap ⟨2, 2, v, t, b, wn, 0⟩ = none from by simp [accF, popF, hc]]
      exact seeany_no1 w g _ base cap ms A c hR D hb _ rfl hc hl
    · rw [show accF ms base cap ⟨2, 2, v, t, b, wn, 0⟩ = none from by simp [accF, popF, hc]]
      exact seeany_no0 w g _ base cap ms A c hR D hb _ rfl hc hl

theorem access_2_3 (hR : Rch w g ⟨2, 3, v, t, b, wn, 0⟩ base cap ms A c) (D : Dq base cap ms) (hb : HdB ⟨2, 3, v, t, b, wn, 0⟩) :
    Calls Try.prog 46 #[.pointer (some ⟨g, 0, none⟩)] w (AcOf g ⟨2, 3, v, t, b, wn, 0⟩ base cap w (accF ms base cap ⟨2, 3, v, t, b, wn, 0⟩)) := by
  by_cases hn : t < 0
  · rw [show accF ms base cap ⟨2, 3, v, t, b, wn, 0⟩ = none from by simp [accF, popF, hn]]
    exact restorebottom_no w g _ base cap ms A c hR D hb hn
  · rw [show accF ms base cap ⟨2, 3, v, t, b, wn, 0⟩ = some (ms.set (base + 1) t, ⟨2, 3, v, t, b, wn, 2⟩) from by simp [accF, popF, hn]]
    exact (restorebottom_ok w g _ base cap ms A c hR D hb (Int.not_lt.1 hn)).mono fun _ _ q => ⟨_, q, by simp [bump]⟩

theorem access_2_4 (hR : Rch w g ⟨2, 4, v, t, b, wn, 0⟩ base cap ms A c) (D : Dq base cap ms) (hb : HdB ⟨2, 4, v, t, b, wn, 0⟩) :
    Calls Try.prog 47 #[.pointer (some ⟨g, 0, none⟩)] w (AcOf g ⟨2, 4, v, t, b, wn, 0⟩ base cap w (accF ms base cap ⟨2, 4, v, t, b, wn, 0⟩)) := by
  by_cases hn : b < 0
  · rw [show accF ms base cap ⟨2, 4, v, t, b, wn, 0⟩ = none from by simp [accF, popF, hn]]
    exact loadlast_no0 w g _ base cap ms A c hR D hb hn (fun (q : t < b) => by have h9 : -1 ≤ t := hb.t.1; omega)
  · by_cases hl : t < b
    · rw [show accF ms base cap ⟨2, 4, v, t, b, wn, 0⟩ = some (ms, ⟨2, 4, nth ms (slI base cap b), t, b, wn, 1⟩) from by simp [accF, popF, hn, hl]]
      exact (loadlast_ok1 w g _ base cap ms A c hR D hb (Int.not_lt.1 hn) hl).mono fun _ _ q => ⟨_, q, by simp [bump]⟩
    · rw [show accF ms base cap ⟨2, 4, v, t, b, wn, 0⟩ = some (ms, ⟨2, 5, nth ms (slI base cap b), t, b, wn, 0⟩) from by simp [accF, popF, hn, hl]]
      exact (loadlast_ok0 w g _ base cap ms A c hR D hb (Int.not_lt.1 hn) hl).mono fun _ _ q => ⟨_, q, by simp [bump]⟩

theorem access_2_5 (hR : Rch w g ⟨2, 5, v, t, b, wn, 0⟩ base cap ms A c) (D : Dq base cap ms) (hb : HdB ⟨2, 5, v, t, b, wn, 0⟩) :
    Calls Try.prog 48 #[.pointer (some ⟨g, 0, none⟩)] w (AcOf g ⟨2, 5, v, t, b, wn, 0⟩ base cap w (accF ms base cap ⟨2, 5, v, t, b, wn, 0⟩)) := by
  by_cases hn : t < 0
  · rw [show accF ms base cap ⟨2, 5, v, t, b, wn, 0⟩ = none from by simp [accF, popF, hn]]
    exact claimlast_no w g _ base cap ms A c hR D hb hn
  · by_cases hy : nth ms base = t
    · rw [show accF ms base cap ⟨2, 5, v, t, b, wn, 0⟩ = some (ms.set base (t + 1), ⟨2, 6, v, t, b, true, 0⟩) from by simp [accF, popF, hn, hy]]
      exact (claimlast_yes w g _ base cap ms A c hR D hb (Int.not_lt.1 hn) hy).mono fun _ _ q => ⟨_, q, by simp [bump]⟩
    · rw [show accF ms base cap ⟨2, 5, v, t, b, wn, 0⟩ = some (ms, ⟨2, 6, v, t, b, false, 0⟩) from by simp [accF, popF, hn, hy]]
      exact (claimlast_other w g _ base cap ms A c hR D hb (Int.not_lt.1 hn) hy).mono fun _ _ q => ⟨_, q, by simp [bump]⟩

theorem access_2_6 (hR : Rch w g ⟨2, 6, v, t, b, wn, 0⟩ base cap ms A c) (D : Dq base cap ms) (hb : HdB ⟨2, 6, v, t, b, wn, 0⟩) :
    Calls Try.prog 49 #[.pointer (some ⟨g, 0, none⟩)] w (AcOf g ⟨2, 6, v, t, b, wn, 0⟩ base cap w (accF ms base cap ⟨2, 6, v, t, b, wn, 0⟩)) := by
  by_cases hn : t < 0
  · rw [show accF ms base cap ⟨2, 6, v, t, b, wn, 0⟩ = none from by simp [accF, popF, hn]]
    exact closebottom_no w g _ base cap ms A c hR D hb hn
  · by_cases hw : wn = true
    · rw [show accF ms base cap ⟨2, 6, v, t, b, wn, 0⟩ = some (ms.set (base + 1) (t + 1), ⟨2, 6, v, t, b, wn, 1⟩) from by simp [accF, popF, hn, hw]]
      exact (closebottom_won w g _ base cap ms A c hR D hb (Int.not_lt.1 hn) hw).mono fun _ _ q => ⟨_, q, by simp [bump]⟩
    · rw [show accF ms base cap ⟨2, 6, v, t, b, wn, 0⟩ = some (ms.set (base + 1) (t + 1), ⟨2, 6, v, t, b, wn, 2⟩) from by simp [accF, popF, hn, hw]]
      exact (closebottom_lost w g _ base cap ms A c hR D hb (Int.not_lt.1 hn) (Bool.eq_false_iff.2 hw)).mono fun _ _ q => ⟨_, q, by simp [bump]⟩

theorem access_3_1 (hR : Rch w g ⟨3, 1, v, t, b, wn, 0⟩ base cap ms A c) (D : Dq base cap ms) (hb : HdB ⟨3, 1, v, t, b, wn, 0⟩) :
    Calls Try.prog 50 #[.pointer (some ⟨g, 0, none⟩)] w (AcOf g ⟨3, 1, v, t, b, wn, 0⟩ base cap w (accF ms base cap ⟨3, 1, v, t, b, wn, 0⟩)) := by
  by_cases hc : cntOk (nth ms (base + 1)) (-1)
  · by_cases hl : nth ms (base + 1) - t < 1
    · rw [show accF ms base cap ⟨3, 1, v, t, b, wn, 0⟩ = some (ms, ⟨3, 1, v, t, nth ms (base + 1), wn, 2⟩) from by simp [accF, stealF, hc, hl]]
      exact (seefirst_ok1 w g _ base cap ms A c hR D hb _ rfl hc hl).mono fun _ _ q => ⟨_, q, by simp [bump]⟩
    · rw [show accF ms base cap ⟨3, 1, v, t, b, wn, 0⟩ = some (ms, ⟨3, 2, v, t, nth ms (base + 1), wn, 0⟩) from by simp [accF, stealF, hc, hl]]
      exact (seefirst_ok0 w g _ base cap ms A c hR D hb _ rfl hc hl).mono fun _ _ q => ⟨_, q, by simp [bump]⟩
  · by_cases hl : -t < 1
    · rw [show accF ms base cap ⟨3, 1, v, t, b, wn, 0⟩ = none from by simp [accF, stealF, hc]]
      exact seefirst_no1 w g _ base cap ms A c hR D hb _ rfl hc hl
    · rw [show accF ms base cap ⟨3, 1, v, t, b, wn, 0⟩ = none from by simp [accF, stealF, hc]]
      exact seefirst_no0 w g _ base cap ms A c hR D hb _ rfl hc hl

theorem access_3_2 (hR : Rch w g ⟨3, 2, v, t, b, wn, 0⟩ base cap ms A c) (D : Dq base cap ms) (hb : HdB ⟨3, 2, v, t, b, wn, 0⟩) :
    Calls Try.prog 51 #[.pointer (some ⟨g, 0, none⟩)] w (AcOf g ⟨3, 2, v, t, b, wn, 0⟩ base cap w (accF ms base cap ⟨3, 2, v, t, b, wn, 0⟩)) := by
  by_cases hn : t < 0
  · rw [show accF ms base cap ⟨3, 2, v, t, b, wn, 0⟩ = none from by simp [accF, stealF, hn]]
    exact loadfirst_no w g _ base cap ms A c hR D hb hn
  · rw [show accF ms base cap ⟨3, 2, v, t, b, wn, 0⟩ = some (ms, ⟨3, 3, nth ms (slI base cap t), t, b, wn, 0⟩) from by simp [accF, stealF, hn]]
    exact (loadfirst_ok w g _ base cap ms A c hR D hb (Int.not_lt.1 hn)).mono fun _ _ q => ⟨_, q, by simp [bump]⟩

theorem access_3_3 (hR : Rch w g ⟨3, 3, v, t, b, wn, 0⟩ base cap ms A c) (D : Dq base cap ms) (hb : HdB ⟨3, 3, v, t, b, wn, 0⟩) :
    Calls Try.prog 52 #[.pointer (some ⟨g, 0, none⟩)] w (AcOf g ⟨3, 3, v, t, b, wn, 0⟩ base cap w (accF ms base cap ⟨3, 3, v, t, b, wn, 0⟩)) := by
  by_cases hn : t < 0
  · rw [show accF ms base cap ⟨3, 3, v, t, b, wn, 0⟩ = none from by simp [accF, stealF, hn]]
    exact claimfirst_no w g _ base cap ms A c hR D hb hn
  · by_cases hy : nth ms base = t
    · rw [show accF ms base cap ⟨3, 3, v, t, b, wn, 0⟩ = some (ms.set base (t + 1), ⟨3, 3, v, t, b, wn, 1⟩) from by simp [accF, stealF, hn, hy]]
      exact (claimfirst_yes w g _ base cap ms A c hR D hb (Int.not_lt.1 hn) hy).mono fun _ _ q => ⟨_, q, by simp [bump]⟩
    · rw [show accF ms base cap ⟨3, 3, v, t, b, wn, 0⟩ = some (ms, ⟨3, 3, v, t, b, wn, 4⟩) from by simp [accF, stealF, hn, hy]]
      exact (claimfirst_other w g _ base cap ms A c hR D hb (Int.not_lt.1 hn) hy).mono fun _ _ q => ⟨_, q, by simp [bump]⟩

end

/-- Whatever the hand's next access is. -/
theorem access_any (w : World) (g : Nat) (h : Hd) (base cap : Nat) (ms : List Int) (A : Option Addr) (c : Nat) (hR : Rch w g h base cap ms A c) (D : Dq base cap ms) (hv : Fit h.v) (hm : MayH h) (hs : h.state = 0) :
    ∃ i, tblF h.kind h.pc = some i ∧ (∀ args w, (callFunc i args).run Try.prog w = .ok (.enter i args) w) ∧ Calls Try.prog i #[.pointer (some ⟨g, 0, none⟩)] w (AcOf g h base cap w (accF ms base cap h)) := by
  obtain ⟨k, p, v, t, b, wn, s⟩ := h
  obtain ⟨m1, m2, m3, m4, m5, m6⟩ := hm
  have hb : HdB ⟨k, p, v, t, b, wn, s⟩ := ⟨hv, m3, m4⟩
  simp only at hs m1 m2
  subst hs
  have hk := pcs_kind (Int.lt_of_le_of_lt m1 m2)
  rcases hk with rfl | rfl | rfl
  · rw [pcs1] at m2
    have hp : p = 0 ∨ p = 1 ∨ p = 2 ∨ p = 3 := by omega
    rcases hp with rfl | rfl | rfl | rfl
    · exact ⟨_, rfl, enters_of Try.func39 (by kernel_rfl) rfl, access_1_0 w g base cap ms A c v t b wn hR D hb⟩
    · exact ⟨_, rfl, enters_of Try.func40 (by kernel_rfl) rfl, access_1_1 w g base cap ms A c v t b wn hR D hb⟩
    · exact ⟨_, rfl, enters_of Try.func41 (by kernel_rfl) rfl, access_1_2 w g base cap ms A c v t b wn hR D hb⟩
    · exact ⟨_, rfl, enters_of Try.func42 (by kernel_rfl) rfl, access_1_3 w g base cap ms A c v t b wn hR D hb⟩
  · rw [pcs2] at m2
    have hp : p = 0 ∨ p = 1 ∨ p = 2 ∨ p = 3 ∨ p = 4 ∨ p = 5 ∨ p = 6 := by omega
    rcases hp with rfl | rfl | rfl | rfl | rfl | rfl | rfl
    · exact ⟨_, rfl, enters_of Try.func43 (by kernel_rfl) rfl, access_2_0 w g base cap ms A c v t b wn hR D hb⟩
    · exact ⟨_, rfl, enters_of Try.func44 (by kernel_rfl) rfl, access_2_1 w g base cap ms A c v t b wn hR D hb⟩
    · exact ⟨_, rfl, enters_of Try.func45 (by kernel_rfl) rfl, access_2_2 w g base cap ms A c v t b wn hR D hb⟩
    · exact ⟨_, rfl, enters_of Try.func46 (by kernel_rfl) rfl, access_2_3 w g base cap ms A c v t b wn hR D hb⟩
    · exact ⟨_, rfl, enters_of Try.func47 (by kernel_rfl) rfl, access_2_4 w g base cap ms A c v t b wn hR D hb⟩
    · exact ⟨_, rfl, enters_of Try.func48 (by kernel_rfl) rfl, access_2_5 w g base cap ms A c v t b wn hR D hb⟩
    · exact ⟨_, rfl, enters_of Try.func49 (by kernel_rfl) rfl, access_2_6 w g base cap ms A c v t b wn hR D hb⟩
  · rw [pcs3] at m2
    have hp : p = 0 ∨ p = 1 ∨ p = 2 ∨ p = 3 := by omega
    rcases hp with rfl | rfl | rfl | rfl
    · exact ⟨_, rfl, enters_of Try.func39 (by kernel_rfl) rfl, access_3_0 w g base cap ms A c v t b wn hR D hb⟩
    · exact ⟨_, rfl, enters_of Try.func50 (by kernel_rfl) rfl, access_3_1 w g base cap ms A c v t b wn hR D hb⟩
    · exact ⟨_, rfl, enters_of Try.func51 (by kernel_rfl) rfl, access_3_2 w g base cap ms A c v t b wn hR D hb⟩
    · exact ⟨_, rfl, enters_of Try.func52 (by kernel_rfl) rfl, access_3_3 w g base cap ms A c v t b wn hR D hb⟩

end Go.Proofs.Ytfmiamjbhlglbaa

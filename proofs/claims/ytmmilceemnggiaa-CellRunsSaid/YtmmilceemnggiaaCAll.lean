/-
  The contract of cell.All: it comes to 'runK' over all accesses.
-/
import Derived.Test.YtmmilceemnggiaaCNew
import Derived.Test.YtmmilceemnggiaaCRunSpec
namespace Go.Proofs.Ytmmilceemnggiaa
open Go.RowKit

/-- New cells, what each access told, the first error. -/
def NewIL (r : List Int × List Int × Int) (w : World) (e : Ending) (w' : World) : Prop :=
  ∃ A c B d, e = .returned (.tuple #[.slice A r.1.length c, .slice B r.2.1.length d, .int .i64 r.2.2]) ∧ OwnI 2 w' w.heap.size A c r.1 ∧ OwnI 2 w' w.heap.size B d r.2.1 ∧ Below w.heap.size w w'

theorem NewIL.none_ {r : List Int × List Int × Int} {w : World} {e : Ending} {w' : World} {y : Int} (hr : r = ([], [], y)) (he : e = .returned (.tuple #[.slice none 0 0, .slice none 0 0, .int .i64 y])) (hb : Below w.heap.size w w') : NewIL r w e w' := by
  subst hr
  exact ⟨none, 0, none, 0, he, OwnI.nil_ _ _ _, OwnI.nil_ _ _ _, hb⟩

/-- A row is kept where another block alone has changed. -/
theorem OwnI.grown {E : TypeId} {w w' : World} {base : Nat} {A : Option Addr} {c : Nat} {zs : List Int} (h : OwnI E w base A c zs) {row : Option Nat} (hg : w.grownBy w' row)
    (hne : ∀ k, (Value.slice A zs.length c).ownBlock = some k → row ≠ some k) : OwnI E w' base A c zs :=
  ⟨h.1, h.2.1, h.2.2.kept hg (by
    cases hv : (Value.slice A zs.length c).ownBlock with
    | none => exact .inl rfl
    | some k => exact .inr (fun e => hne k hv e.symm))⟩

theorem ownBlock_len (A : Option Addr) (n c m d : Nat) : (Value.slice A n c).ownBlock = (Value.slice A m d).ownBlock := by cases A <;> rfl

/-- The relation of the loop of All: the cells behind k accesses, what they told, and zeros behind that. -/
def AllRel (w : World) (A1 : Option Addr) (c1 : Nat) (B2 : Nat) (zs : List Int) (l : List M) (m : Nat) (t : Value) (wr : World) : Prop :=
  ∃ k : Nat, k ≤ m ∧ t = .int .i64 k ∧ ∃ cs ts, runK zs l k = (cs, ts, 0) ∧ OwnI 2 wr w.heap.size A1 c1 cs ∧
    OwnI 2 wr B2 (some ⟨B2, 0, none⟩) m (ts ++ List.replicate (m - k) 0) ∧ Below w.heap.size w wr

theorem set_told {ts : List Int} {k m : Nat} (h : ts.length = k) (hk : k < m) (x : Int) :
    (ts ++ List.replicate (m - k) 0).set k x = (ts ++ [x]) ++ List.replicate (m - (k + 1)) 0 := by
  subst h
  obtain ⟨d, hd⟩ : ∃ d, m - ts.length = d + 1 := ⟨m - ts.length - 1, by omega⟩
  rw [hd, show m - (ts.length + 1) = d from by omega, List.replicate_succ]
  simp

set_option maxHeartbeats 800000 in
theorem all_any (A A' : Option Addr) (n c m c' : Nat) (zs : List Int) (l : List M) (w : World) (hx : Ints w A n zs) (hn : n ≤ 65536) (hl : Mics w A' m l) :
    Calls Try.prog 21 #[.slice A n c, .slice A' m c'] w (NewIL (runK zs l m) w) := by
  obtain ⟨i0, hi, hz0, hz1, hz2⟩ := info_parts infoI
  have HI := Lib.hid hi
  have HZ := Lib.hid hz0
  have HS := Lib.hid hz1
  have HBY := Lib.hid hz2
  have HX := Lib.hid hx
  have HL := Lib.hid hl
  have hm := hl.2.1
  clear hi hz0 hz1 hz2 hx hl
  go_enter Try.func21, Try.ntmps21
  go_wp2_with (first
    | (go_at_call 14; refine (check_ok _ _ _ _ hn).mono ?_; rintro e w' ⟨rfl, rfl⟩)
    | (go_at_call 23; refine (clone_any _ _ _ zs _ HX.out).mono ?_; rintro e w1 ⟨A1, c1, rfl, ho, hb⟩; have HO1 := Lib.hid ho; have HB1 := Lib.hid hb; clear ho hb)
    | (at_make; refine wpList_make_full _ rfl _ _ 22 rfl w1.heap.size 2 i0 (.int .i64 0) 1 Try.underlying22 HI.out HZ.out HS.out .i64 .i64 _ _ m rfl rfl rfl rfl (by rw [HBY.out]; omega) (by unfold maxLen; omega) (Nat.le_refl _) ?_; intro w2 hown hgrow; have HO2 := Lib.hid (OwnI.zeros (by omega) hown); have HG2 := Lib.hid hgrow; clear hown hgrow))
  have hlt1 : ∀ g, (Value.slice A1 zs.length c1).ownBlock = some g → g < w1.heap.size := fun g hg => (HO1.out.2.2.lt g hg).2
  have HLT := Lib.hid hlt1
  have HB2 := Lib.hid (HB1.out.grown HG2.out HB1.out.size (by simp))
  have HO1' := Lib.hid (HO1.out.grown HG2.out (by simp))
  clear hlt1
  go_loopw [25] (fun t wr => AllRel w A1 c1 w1.heap.size zs l m t wr) (fun t _ => m - (intOf t).toNat)
  case atStart => exact ⟨0, Nat.zero_le _, rfl, zs, [], rfl, HO1'.out, by simpa using HO2.out, HB2.out⟩
  case round =>
    obtain ⟨k, hk, rfl, cs, ts, hr, ho, ht, hb⟩ := hrel
    obtain ⟨hcl, htl⟩ := runK_len hr
    have HR := Lib.hid hr
    have HO := Lib.hid ho
    have HT := Lib.hid ht
    have HB := Lib.hid hb
    have HCL := Lib.hid hcl
    have HTL := Lib.hid htl
    clear hr ho ht hb hcl htl
    by_cases hlt : k < m
    · obtain ⟨b, o, rfl, hbl, hcc⟩ := (HL.out.below HB.out).2.2.2 (by omega)
      obtain ⟨h0, h1, h2, h3⟩ := hcc k hlt
      obtain ⟨fa, fb⟩ := HL.out.fit hlt
      have FA := Lib.hid fa
      have FB := Lib.hid fb
      have hfit := acc_fit (k := mK l k) (p := mP l k) HO.out.2.1 fa fb
      clear hcc fa fb
      generalize ha : acc cs (mK l k) (mP l k) (mA l k) (mB l k) = q at hfit
      obtain ⟨cs', x, y⟩ := q
      have HA := Lib.hid ha
      have HF := Lib.hid hfit
      clear ha hfit
      go_wp2_with fail
      refine (access_own _ _ cs _ _ _ _ _ w.heap.size _ HCL.out.symm HO.out FA.out FB.out).mono ?_
      rw [HA.out]
      rintro e wa ⟨rfl, hoa, hga⟩
      simp only [] at hoa ⊢
      have hba := HB.out.grown hga HB.out.size HO.out.block
      have hta := HT.out.grown hga (fun g hg e => by
        have h1 := HLT.out g e
        simp only [Value.ownBlock, Option.some.injEq] at hg
        omega)
      have HBA := Lib.hid hba
      have HTA := Lib.hid hta
      clear hba hta hga
      have ht2 : (ts ++ List.replicate (m - k) 0).length = m := by rw [List.length_append, HTL.out, List.length_replicate]; omega
      by_cases hy : y = 0
      · subst hy
        have HOA := Lib.hid (hoa rfl)
        obtain ⟨hc, hf⟩ := HTA.out.at_ (j := k) (by omega)
        clear hoa ht2
        go_wp2
        go_roundw
        case rel =>
          refine ⟨k + 1, by omega, by go_num, cs', ts ++ [x], runK_ok HR.out HA.out, ?_, ?_, ?_⟩
          · refine HOA.out.grown (HTA.out.2.2.stored k _).2 (fun g hg e => ?_)
            have h1 := HLT.out g (by rw [← hg]; exact ownBlock_len _ _ _ _ _)
            injection e with e
            omega
          · rw [← set_told HTL.out hlt]; exact HTA.out.set_ k HF.out.2.1
          · exact HBA.out.setCell (by exact HB1.out.size) _
        case measure => simp [intOf]; omega
      · have hy2 : (y != 0) = true := by simpa using hy
        have HY := Lib.hid hy
        clear hoa hy ht2
        go_wp2
        go_ret3
        refine NewIL.none_ ?_ rfl HBA.out
        have h1 := runK_stays HY.out (runK_bad HR.out HA.out HY.out) (m - (k + 1))
        rwa [show k + 1 + (m - (k + 1)) = m from by omega] at h1
    · have : k = m := by omega
      subst this
      go_wp2
      go_ret3
      have e1 : (Value.slice A1 zs.length c1) = .slice A1 cs.length c1 := by rw [HCL.out]
      have e2 : (Value.slice (some ⟨w1.heap.size, 0, none⟩) k k) = .slice (some ⟨w1.heap.size, 0, none⟩) ts.length k := by rw [HTL.out]
      rw [HR.out]
      have ht := HT.out
      simp only [Nat.sub_self, List.replicate_zero, List.append_nil] at ht
      refine ⟨A1, c1, _, k, by rw [← e1, ← e2]; rfl, HO.out, ht.base HB1.out.size, HB.out⟩

end Go.Proofs.Ytmmilceemnggiaa

/-
  The contract of the document's Lists of layer 6: the lists that chains stand for, or that they stand for none.
-/
import Derived.Test.YtiheeehegjfmgaaChW
import Derived.Test.YtiheeehegjfmgaaIB
import Derived.Test.YtiheeehegjfmgaaRows
import Derived.Deep.LoopGhost
import Derived.Deep.OwnRows
namespace Go.Proofs.Ytiheeehegjfmgaa
open Go.RowKit

theorem Try.intInfo : (Try.prog.info? 3).map (fun i => (i.zero, i.size, i.bytes)) = some (some (.int .i64 0), 1, 8) := by kernel_rfl
theorem Try.boolInfo : (Try.prog.info? 4).map (fun i => (i.zero, i.size, i.bytes)) = some (some (.bool false), 1, 1) := by kernel_rfl
theorem Try.rowInfo : (Try.prog.info? 22).map (fun i => (i.zero, i.size, i.bytes)) = some (some (.slice none 0 0), 1, 24) := by kernel_rfl

/-- What Lists answers. -/
def ListsAns (next head tail : List Int) (w : World) (e : Ending) (w' : World) : Prop :=
  Below w.heap.size w w' ∧ ((∃ qs, Rep next head tail qs ∧ ∃ H C hs, e = .returned (.tuple #[.slice H qs.length C, .bool true]) ∧ OwnQs 3 22 w' w.heap.size H C hs qs) ∨
    ((∀ qs, ¬ Rep next head tail qs) ∧ e = .returned (.tuple #[.slice none 0 0, .bool false])))
theorem lists_no {next head tail : List Int} {w w' : World} {e : Ending} (hb : Below w.heap.size w w') (h : ∀ qs, ¬ Rep next head tail qs) (he : e = .returned (.tuple #[.slice none 0 0, .bool false])) : ListsAns next head tail w e w' := ⟨hb, .inr ⟨h, he⟩⟩

theorem OwnB.grownT {E T : TypeId} {w w' : World} {base g c : Nat} {zs : List Bool} (h : OwnB T w base (some ⟨g, 0, none⟩) c zs) {row : Option Nat} (hg : w.grownBy w' row) (hr : ∀ k, row = some k → ∃ cs, Bk w k E cs) (hne : E ≠ T) : OwnB T w' base (some ⟨g, 0, none⟩) c zs := by
  refine h.grown hg ?_
  refine .inr fun e => ?_
  obtain ⟨cs, hk⟩ := hr g (by rw [← e]; rfl)
  rcases (show w.ownsRow base T 1 (.slice (some ⟨g, 0, none⟩) zs.length c) zs.length (zs.map Value.bool) from h).2 with ⟨e', -⟩ | ⟨g', cap, cur, e', -, hh, -⟩
  · injection e' with e' _ _; cases e'
  · injection e' with e' _ _
    simp at e'
    subst e'
    exact hne (bk_types hk hh)
theorem OwnB.bk {T : TypeId} {w : World} {base g c : Nat} {zs : List Bool} (h : OwnB T w base (some ⟨g, 0, none⟩) c zs) : ∃ cs, Bk w g T cs := by
  rcases (show w.ownsRow base T 1 (.slice (some ⟨g, 0, none⟩) zs.length c) zs.length (zs.map Value.bool) from h).2 with ⟨e', -⟩ | ⟨g', cap, cur, e', -, hh, -⟩
  · injection e' with e' _ _; cases e'
  · injection e' with e' _ _
    simp at e'
    subst e'
    exact ⟨cur, hh⟩

/-- What lies there: the chains, who was met, and the lists that are gathered. -/
structure LiS (w wr : World) (cs : Array Value) (gm n : Nat) (met : List Bool) (H : Option Addr) (C : Nat) (hs : List (Option Addr × Nat)) (out : List (List Int)) : Prop where
  box : Bk wr w.heap.size 24 cs
  below : Below w.heap.size w wr
  mw : OwnB 4 wr (w.heap.size + 1) (some ⟨gm, 0, none⟩) n met
  ml : met.length = n
  out : OwnQs 3 22 wr (w.heap.size + 1) H C hs out

section
variable {w wr w' : World} {cs : Array Value} {gm n : Nat} {met : List Bool} {H : Option Addr} {C : Nat} {hs : List (Option Addr × Nat)} {out : List (List Int)}
theorem LiS.gmlt (h : LiS w wr cs gm n met H C hs out) : w.heap.size + 1 ≤ gm := by
  refine ((show wr.ownsRow (w.heap.size + 1) _ 1 _ _ _ from h.mw).lt gm ?_).1
  simp [Value.ownBlock]
theorem LiS.call (h : LiS w wr cs gm n met H C hs out) (hb : Below wr.heap.size wr w') : LiS w w' cs gm n met H C hs out :=
  ⟨h.box.below hb h.box.lt, below3 h.below hb, h.mw.below hb, h.ml, h.out.below hb⟩
theorem LiS.meet (h : LiS w wr cs gm n met H C hs out) (x : Nat) : LiS w (wr.setCell ⟨gm, x, none⟩ (.bool true)) cs gm n (met.set x true) H C hs out := by
  obtain ⟨bs, hk⟩ := h.mw.bk
  have := h.gmlt
  refine ⟨h.box.far (by simp; omega) _, h.below.setCell (p := ⟨gm, x, none⟩) (by simp; omega) _, h.mw.set_ x true, by rw [List.length_set]; exact h.ml, ?_⟩
  exact h.out.grownT (grown_set _) hk (by decide) (by decide)
/-- A row of the call's own, apart from those that are gathered, has turned. -/
theorem LiS.app (h : LiS w wr cs gm n met H C hs out) {A : Option Addr} {c : Nat} {l : List Int} (ho : OwnQ 3 wr (w.heap.size + 1) A c l) (hap : ∀ j, j < out.length → ∀ k, (Value.slice A 0 0).ownBlock = some k → qblk (qa hs j) ≠ some k)
    {m d : Nat} (hg : wr.grownBy w' (Value.slice A m d).ownBlock) : LiS w w' cs gm n met H C hs out := by
  have hblk : (Value.slice A m d).ownBlock = (Value.slice A 0 0).ownBlock := by cases A <;> rfl
  have hrow : ∀ k, (Value.slice A m d).ownBlock = some k → w.heap.size + 1 ≤ k := fun k hk => (ho.block k hk).1
  refine ⟨h.box.grown hg (fun e => by have := hrow _ e.symm; omega), h.below.grown hg h.below.size (fun k hk => by have := hrow k hk; omega), h.mw.grownT hg (fun k hk => ho.type hk) (by decide), h.ml, ?_⟩
  refine h.out.grown hg ?_ fun j hj => ?_
  · exact h.out.hne (by decide) ho
  · cases e : qblk (qa hs j) with
    | none => exact .inl rfl
    | some k => exact .inr fun e' => hap j hj k (by rw [← hblk, ← e']) e
end

theorem LiS.push {w wr w' : World} {cs : Array Value} {gm n : Nat} {met : List Bool} {H H' : Option Addr} {C C' : Nat} {hs hs' : List (Option Addr × Nat)} {out out' : List (List Int)} (h : LiS w wr cs gm n met H C hs out) {m d : Nat} (hg : wr.grownBy w' (Value.slice H m d).ownBlock)
    (ho : OwnQs 3 22 w' (w.heap.size + 1) H' C' hs' out') : LiS w w' cs gm n met H' C' hs' out' := by
  have hrow : ∀ k, (Value.slice H m d).ownBlock = some k → w.heap.size + 1 ≤ k := fun k hk => (h.out.hblock k hk).1
  exact ⟨h.box.grown hg (fun e => by have := hrow _ e.symm; omega), h.below.grown hg h.below.size (fun k hk => by have := hrow k hk; omega), h.mw.grownT hg (fun k hk => h.out.type hk) (by decide), h.ml, ho⟩
theorem OwnQs.base_ {E R : TypeId} {w : World} {base base' : Nat} {H : Option Addr} {C : Nat} {hs : List (Option Addr × Nat)} {qs : List (List Int)} (h : OwnQs E R w base H C hs qs) (hb : base' ≤ base) : OwnQs E R w base' H C hs qs := by
  refine ⟨h.len, ?_, fun j hj => (h.own j hj).base_ hb, h.apart⟩
  obtain ⟨h1, h2⟩ := h.row
  refine ⟨h1, ?_⟩
  rcases h2 with h2 | ⟨g, cap, cur, e, hg, r⟩
  · exact .inl h2
  · exact .inr ⟨g, cap, cur, e, by omega, r⟩
theorem last_snoc (l : List Int) (x : Int) : lastO (l ++ [x]) = x := by
  rw [lastO_at (by simp), nth_snoc_ _ _ _ (by simp), if_neg (by simp)]
theorem lists_yes {next head tail : List Int} {w w' : World} {qs : List (List Int)} {H : Option Addr} {C i : Nat} {hs : List (Option Addr × Nat)} {e : Ending} (hb : Below w.heap.size w w') (h : Rep next head tail qs) (hi : qs.length = i) (he : e = .returned (.tuple #[.slice H i C, .bool true])) (ho : OwnQs 3 22 w' (w.heap.size + 1) H C hs qs) : ListsAns next head tail w e w' := by
  subst hi
  exact ⟨hb, .inl ⟨qs, h, H, C, hs, he, ho.base_ (by omega)⟩⟩

/-- The relations of the loops. -/
def LoRel (w : World) (cs : Array Value) (gm n m : Nat) (next head tail : List Int) (u t : Value) (wr : World) : Prop :=
  ∃ i : Nat, i ≤ m ∧ t = .int .i64 i ∧ ∃ met H C hs out, u = .slice H i C ∧ LiS w wr cs gm n met H C hs out ∧ Hid (out.length = i ∧ Par next head tail out [] (nth head i) met)
def InRel (w : World) (cs : Array Value) (gm n : Nat) (next head tail : List Int) (H : Option Addr) (C : Nat) (hs : List (Option Addr × Nat)) (out : List (List Int)) (gk : Nat) (s8 s9 s10 : Value) (wr : World) : Prop :=
  ∃ at_ A c z l met, s8 = .int .i64 at_ ∧ s9 = .slice A z c ∧ s10 = .int .i64 (lastO l) ∧ LiS w wr cs gm n met H C hs out ∧ OwnQ 3 wr (w.heap.size + 1) A c l ∧ (∀ j, j < out.length → ∀ k, (Value.slice A 0 0).ownBlock = some k → qblk (qa hs j) ≠ some k) ∧
    Hid (l.length = z ∧ z + gk ≤ n ∧ Par next head tail out l at_ met ∧ gk + hereN met n = n)

theorem mkBool (n : Nat) (h : n ≤ 1024) (W : World) : (Instr.makeSlice 66 (.int .i64 (n : Int)) (.int .i64 (n : Int))).run Try.prog W = .ok (.slice (some ⟨W.heap.size, 0, none⟩) n n) (W.alloc (.cells (madeCells #[.bool false] n) 4)) :=
  run_make_row' (P := Try.prog) 66 4 (.bool false) 1 Try.underlying66 Try.boolInfo rfl .i64 .i64 n (by omega) (by omega) W
theorem falses_lie (w : World) (base n : Nat) (hb : base ≤ w.heap.size) (hn : n ≤ 1024) (z : Array Value) (hz : madeCells #[Value.bool false] n = z) : OwnB 4 (w.alloc (.cells z 4)) base (some ⟨w.heap.size, 0, none⟩) n (List.replicate n false) := by
  subst hz
  refine OwnB.falses ?_
  have hs : (madeCells #[Value.bool false] n).size = n * 1 := by
    rw [← Array.length_toList, toList_madeCells_one]; simp
  have := World.ownsRow_lit (base := base) (e := 4) (size := 1) w (madeCells #[Value.bool false] n) n hb (by unfold maxLen; omega) hs
  simpa [Value.cells] using this
theorem here_falses (n : Nat) : hereN (List.replicate n false) n = 0 := by
  have : ∀ k, k ≤ n → hereN (List.replicate n false) k = 0 := by
    intro k
    induction k with
    | zero => intro _; rfl
    | succ k ih =>
      intro hk
      rw [hereN_succ, ih (by omega), if_neg]
      rw [bth_get (by simp; omega)]
      simp
  exact this n (Nat.le_refl _)

set_option maxRecDepth 100000 in
set_option maxHeartbeats 4000000 in
theorem rlists_main (A B D : Option Addr) (n a m b d : Nat) (next head tail : List Int) (w : World) (hA : Ints w A n next) (hB : Ints w B m head) (hD : Ints w D m tail) (h1 : n ≤ 1024) (h2 : 1 ≤ m) (h3 : m ≤ 256) :
    Calls Try.prog 27 #[.agg #[.slice A n a, .slice B m b, .slice D m d]] w (ListsAns next head tail w) := by
  have HA := Lib.hid hA
  have HB := Lib.hid hB
  have HD := Lib.hid hD
  have LA := Lib.hid hA.1
  have LB := Lib.hid hB.1
  have LD := Lib.hid hD.1
  have K1 := Bk.new w 24 #[.slice A n a, .slice B m b, .slice D m d]
  have mk := mkBool n h1
  obtain ⟨z, hz⟩ : ∃ z, madeCells #[Value.bool false] n = z := ⟨_, rfl⟩
  rw [hz] at mk
  have hM := falses_lie (w.alloc (.cells #[.slice A n a, .slice B m b, .slice D m d] 24)) (w.heap.size + 1) n (by simp) h1 z hz
  rw [size_alloc] at hM
  have S0 := Lib.hid (LiS.mk (K1.alloc (.cells z 4)) (((Below.refl w.heap.size w).alloc (Nat.le_refl _) _).alloc (by simp) _) hM (by simp) (OwnQs.nil_ 3 22 _ _))
  have P0 := Lib.hid (LA.out ▸ par_start next head tail)
  have a0 := K1.cell 0
  have a1 := K1.cell 1
  have a2 := K1.cell 2
  simp at a0 a1 a2
  have h0 := here_falses n
  have H0 := Lib.hid h0
  clear hA hB hD K1 hz hM h0
  go_enter Try.func27, Try.ntmps27
  go_wp2
  clear mk a0 a1 a2
  go_loopw [6, 44] (fun u t wr => LoRel w #[.slice A n a, .slice B m b, .slice D m d] (w.heap.size + 1) n m next head tail u t wr) (fun _ t _ => m - (intOf t).toNat)
  case atStart => exact ⟨0, Nat.zero_le _, rfl, _, none, 0, [], [], rfl, S0.out, Lib.hid ⟨rfl, P0.out⟩⟩
  case round =>
    rename World => wo
    obtain ⟨i, hi, rfl, met, H, C, hs, out, rfl, hS, HP⟩ := hrel
    have S := Lib.hid hS
    clear hS
    by_cases hlt : i < m
    · obtain ⟨bB, oB, rfl, hbB, hcB⟩ := HB.out.2.2.2 (by omega)
      have cb := (S.out.below.cell (p := ⟨bB, oB + i, none⟩) hbB).trans (hcB i hlt)
      obtain ⟨at0, hat0⟩ : ∃ x, nth head i = x := ⟨_, rfl⟩
      rw [hat0] at cb
      have HP2 : Hid (out.length = i ∧ Par next head tail out [] at0 met) := Lib.hid (hat0 ▸ HP.out)
      have hh := hereN_le met n
      have HOL : Hid (out.length < head.length) := Lib.hid (by rw [HP.out.1, LB.out]; exact hlt)
      clear hbB hcB hat0
      go_wp2
      clear cb
      go_loopg [8, 9, 10] (n - hereN met n) (fun gk s8 s9 s10 wr => InRel w #[.slice A n a, .slice (some ⟨bB, oB, none⟩) m b, .slice D m d] (w.heap.size + 1) n next head tail H C hs out gk s8 s9 s10 wr)
      case atStart => exact ⟨at0, none, 0, 0, [], met, rfl, rfl, rfl, S.out, OwnQ.nil_ _ _ _, fun j hj k hk => by simp [Value.ownBlock] at hk, Lib.hid ⟨rfl, by omega, HP2.out.2, by omega⟩⟩
      case round =>
        obtain ⟨at_, A', c', z', l, met', rfl, rfl, rfl, hS2, ho2, hap2, HI⟩ := hrel
        have S2 := Lib.hid hS2
        have O2 := Lib.hid ho2
        have AP2 := Lib.hid hap2
        have LZ := Lib.hid HI.out.1
        have hzn := HI.out.2.1
        clear hS2 ho2 hap2
        by_cases ha : at_ = -1
        · have hae : (at_ != -1) = false := by simpa using ha
          obtain ⟨bD, oD, rfl, hbD, hcD⟩ := HD.out.2.2.2 (by omega)
          have cd := (S2.out.below.cell (p := ⟨bD, oD + i, none⟩) hbD).trans (hcD i hlt)
          have c2 := S2.out.box.cell 2
          simp at c2
          obtain ⟨x, hx⟩ : ∃ x, nth tail i = x := ⟨_, rfl⟩
          rw [hx] at cd
          have HX := Lib.hid hx
          have HAT := Lib.hid ha
          obtain ⟨y, hy⟩ : ∃ y, lastO l = y := ⟨_, rfl⟩
          have HY := Lib.hid hy
          rw [hy]
          clear hbD hcD hx hy ha
          by_cases ht : x = y
          · have htn : (x != y) = false := by simpa using ht
            have HT : Hid (nth tail out.length = lastO l) := Lib.hid (by rw [HP2.out.1, HX.out, HY.out, ht])
            have PN := Lib.hid (HI.out.2.2.1.next_ HAT.out HT.out)
            clear ht
            have hax := (Below.refl wr.heap.size wr).alloc (Nat.le_refl _) (.cells #[.slice A' z' c'] 22)
            have S3 := Lib.hid (S2.out.call hax)
            have O3 := Lib.hid (O2.out.below hax)
            have CX := Lib.hid ((Bk.new wr 22 #[.slice A' z' c']).one.trans (by rw [LZ.out] : some (Value.slice A' z' c') = some (.slice A' l.length c')))
            have hz3 : w.heap.size + 1 ≤ (wr.alloc (.cells #[.slice A' z' c'] 22)).heap.size := by have := S3.out.box.lt; omega
            have HZ3 := Lib.hid hz3
            have HFW : Hid (out.length < 1000000) := Lib.hid (by rw [HP2.out.1]; omega)
            clear hax hz3
            go_wp2_with (at_builtin; refine wpList_push_row _ rfl _ _ 41 rfl 3 22 (by decide) Try.underlying41 Try.rowInfo (w.heap.size + 1) H C hs out i HP2.out.1.symm rfl S3.out.out A' c' l O3.out AP2.out wr.heap.size 1 rfl CX.out HFW.out HZ3.out ?_)
            intro H5 C5 w5 ho5 hg5
            have S5 := Lib.hid (S3.out.push hg5 ho5)
            rw [HP2.out.1]
            clear ho5 hg5 cd c2 htn hae
            go_wp2
            go_roundw
            case rel => exact ⟨i + 1, by omega, by go_num, met', H5, C5, hs ++ [(A', c')], out ++ [l], rfl, S5.out, Lib.hid ⟨by rw [List.length_append, HP2.out.1]; rfl, by have := PN.out; rwa [HP2.out.1] at this⟩⟩
            case measure => simp [intOf]; omega
          · have htn : (x != y) = true := by simpa using ht
            have HF := Lib.hid (fun qs => HI.out.2.2.1.fail_tail (qs := qs) HOL.out HAT.out (by rw [HP2.out.1, HX.out, HY.out]; exact ht))
            have BB := Lib.hid S2.out.below
            clear ht
            go_wp2
            go_ret2
            exact lists_no BB.out HF.out rfl
        · have hae : (at_ != -1) = true := by simpa using ha
          have HAT := Lib.hid ha
          by_cases h0 : at_ < 0
          · have HF := Lib.hid (fun qs => HI.out.2.2.1.fail_at (qs := qs) HOL.out ha (.inl h0))
            have BB := Lib.hid S2.out.below
            clear ha
            go_wp2
            go_ret2
            exact lists_no BB.out HF.out rfl
          · by_cases hn : (n : Int) ≤ at_
            · have HF := Lib.hid (fun qs => HI.out.2.2.1.fail_at (qs := qs) HOL.out ha (.inr (.inl (by rw [LA.out]; exact hn))))
              have BB := Lib.hid S2.out.below
              clear ha
              go_wp2
              go_ret2
              exact lists_no BB.out HF.out rfl
            · obtain ⟨x, rfl⟩ : ∃ x : Nat, at_ = (x : Int) := ⟨at_.toNat, by omega⟩
              have hxn : x < n := by omega
              obtain ⟨cm, fm⟩ := S2.out.mw.at_ (j := x) (by rw [S2.out.ml]; exact hxn)
              clear ha
              cases hy : bth met' x with
              | true =>
                have HF := Lib.hid (fun qs => HI.out.2.2.1.fail_at (qs := qs) HOL.out HAT.out (.inr (.inr (by simpa using hy))))
                have BB := Lib.hid S2.out.below
                rw [hy] at cm
                clear hy
                go_wp2
                go_ret2
                exact lists_no BB.out HF.out rfl
              | false =>
                rw [hy] at cm
                obtain ⟨bA, oA, rfl, hbA, hcA⟩ := HA.out.2.2.2 (by omega)
                have CA := Lib.hid (hcA x hxn)
                have CBA := Lib.hid hbA
                have S3 := S2.out.meet x
                obtain ⟨bs, hbk⟩ := S2.out.mw.bk
                have O3 := O2.out.setOther (p := ⟨w.heap.size + 1, x, none⟩) (by
                  cases e : (Value.slice A' 0 0).ownBlock with
                  | none => exact .inl rfl
                  | some k =>
                    refine .inr fun e' => ?_
                    injection e' with e'
                    subst e'
                    obtain ⟨cs', hk'⟩ := O2.out.type e
                    have := bk_types hk' hbk
                    revert this
                    decide) (.bool true)
                have hax := (Below.refl (wr.setCell ⟨w.heap.size + 1, x, none⟩ (.bool true)).heap.size (wr.setCell ⟨w.heap.size + 1, x, none⟩ (.bool true))).alloc (Nat.le_refl _) (.cells #[.int .i64 (x : Int)] 3)
                have S4 := Lib.hid (S3.call hax)
                have O4 := Lib.hid (O3.below hax)
                have hz4 : w.heap.size + 1 ≤ ((wr.setCell ⟨w.heap.size + 1, x, none⟩ (.bool true)).alloc (.cells #[.int .i64 (x : Int)] 3)).heap.size := by have := S4.out.box.lt; omega
                have HZ4 := Lib.hid hz4
                have PS := Lib.hid (HI.out.2.2.1.step rfl (by rw [LA.out]; exact hxn) hy)
                have hcount := here_take (ls := met') (i := x) (n := n) S2.out.ml hxn hy
                have hsum := HI.out.2.2.2
                have hle := hereN_le (met'.set x true) n
                have hgk : gk - 1 < gk := by omega
                have hzk : z' + 1 + (gk - 1) ≤ n := by omega
                have HZK := Lib.hid hzk
                have hgs : gk - 1 + hereN (met'.set x true) n = n := by omega
                have HGS := Lib.hid hgs
                have HGK := Lib.hid hgk
                have HSZ : Hid ((wr.setCell ⟨w.heap.size + 1, x, none⟩ (.bool true)).heap.size = wr.heap.size) := Lib.hid (by simp [World.setCell])
                have HFX : Hid (Fit (x : Int)) := Lib.hid (by unfold Fit; omega)
                have HIN : Hid (Ints ((wr.setCell ⟨w.heap.size + 1, x, none⟩ (.bool true)).alloc (.cells #[.int .i64 (x : Int)] 3)) (some ⟨wr.heap.size, 0, none⟩) 1 [(x : Int)]) := Lib.hid (by
                  have := ints1 (wr.setCell ⟨w.heap.size + 1, x, none⟩ (.bool true)) 3 HFX.out
                  rwa [HSZ.out] at this)
                clear hy hbA hcA S3 hbk O3 hax hz4 hcount hsum hle hgs hgk hzk
                go_wp2_with (at_builtin; refine wpList_append_que _ rfl _ _ 22 rfl 3 Try.underlying22 Try.intInfo (w.heap.size + 1) A' c' l z' LZ.out.symm rfl O4.out (some ⟨wr.heap.size, 0, none⟩) 1 1 [(x : Int)] rfl HIN.out (by rw [LZ.out]; omega) HZ4.out ?_)
                intro A5 c5 w5 ho5 hg5 hf5
                have S5 := Lib.hid (S4.out.app O4.out AP2.out hg5)
                have AP5 : Hid (∀ j, j < out.length → ∀ k, (Value.slice A5 0 0).ownBlock = some k → qblk (qa hs j) ≠ some k) := Lib.hid (fun j hj k hk => by
                  rcases hf5 k hk with h | h
                  · exact AP2.out j hj k h
                  · intro e
                    have := ((S4.out.out.own j hj).block (n := 0) (d := 0) k e).2
                    rw [size_alloc, HSZ.out] at this
                    omega)
                have O5 := Lib.hid ho5
                have c0 := S5.out.box.cell 0
                simp at c0
                obtain ⟨v, hv⟩ : ∃ v, nth next x = v := ⟨_, rfl⟩
                have cv := (S5.out.below.cell (p := ⟨bA, oA + x, none⟩) CBA.out).trans CA.out
                rw [hv] at cv
                have PS2 : Hid (Par next head tail out (l ++ [(x : Int)]) v (met'.set x true)) := Lib.hid (hv ▸ PS.out)
                rw [LZ.out]
                clear ho5 hg5 hf5 hv cm fm hae
                go_wp2
                go_roundg (gk - 1)
                case measure => exact HGK.out
                case rel => exact ⟨v, A5, c5, z' + 1, l ++ [(x : Int)], met'.set x true, rfl, rfl, by rw [last_snoc], S5.out, O5.out, AP5.out, Lib.hid ⟨by rw [List.length_append, LZ.out]; rfl, HZK.out, PS2.out, HGS.out⟩⟩
    · obtain rfl : i = m := by omega
      have HOL : Hid (out.length = head.length) := Lib.hid (by rw [HP.out.1, LB.out])
      have c0 := S.out.box.cell 0
      simp at c0
      go_wp2
      go_loop [91] (fun t => ∃ j : Nat, j ≤ n ∧ t = .int .i64 j ∧ Hid (∀ x, x < j → bth met x = false → nth next x = -2)) (fun t => n - (intOf t).toNat)
      case atStart => exact ⟨0, Nat.zero_le _, rfl, Lib.hid (fun x hx => by omega)⟩
      case round =>
        obtain ⟨j, hj, rfl, HX⟩ := hrel
        by_cases hlt2 : j < n
        · obtain ⟨cm, -⟩ := S.out.mw.at_ (j := j) (by rw [S.out.ml]; exact hlt2)
          obtain ⟨bA, oA, rfl, hbA, hcA⟩ := HA.out.2.2.2 (by omega)
          have cv := (S.out.below.cell (p := ⟨bA, oA + j, none⟩) hbA).trans (hcA j hlt2)
          obtain ⟨v, hv⟩ : ∃ v, nth next j = v := ⟨_, rfl⟩
          have HV := Lib.hid hv
          rw [hv] at cv
          clear hbA hcA hv
          cases hy : bth met j with
          | true =>
            rw [hy] at cm
            have HX2 : Hid (∀ x, x < j + 1 → bth met x = false → nth next x = -2) := Lib.hid (fun x hx hb => by
              rcases Nat.lt_or_ge x j with h | h
              · exact HX.out x h hb
              · obtain rfl : x = j := by omega
                rw [hy] at hb; cases hb)
            clear hy
            go_wp2
            go_round
            case rel => exact ⟨j + 1, by omega, by go_num, HX2⟩
            case measure => simp [intOf]; omega
          | false =>
            rw [hy] at cm
            have HYY := Lib.hid hy
            clear hy
            by_cases hv2 : v = -2
            · have hvn : (v != -2) = false := by simpa using hv2
              have HX2 : Hid (∀ x, x < j + 1 → bth met x = false → nth next x = -2) := Lib.hid (fun x hx hb => by
                rcases Nat.lt_or_ge x j with h | h
                · exact HX.out x h hb
                · obtain rfl : x = j := by omega
                  rw [HV.out, hv2])
              clear hv2
              go_wp2
              go_round
              case rel => exact ⟨j + 1, by omega, by go_num, HX2⟩
              case measure => simp [intOf]; omega
            · have hvn : (v != -2) = true := by simpa using hv2
              have HF := Lib.hid (fun qs => HP.out.2.fail_out (qs := qs) HOL.out (x := j) (by rw [LA.out]; exact hlt2) HYY.out (by rw [HV.out]; exact hv2))
              have BB := Lib.hid S.out.below
              clear hv2
              go_wp2
              go_ret2
              exact lists_no BB.out HF.out rfl
        · have HR := Lib.hid (HP.out.2.done (by rw [LA.out]; exact h1) (by rw [LB.out]; exact h2) (by rw [LB.out]; exact h3) (by rw [LD.out, LB.out]) HOL.out (fun x hx hb => HX.out x (by rw [LA.out] at hx; omega) hb))
          have BB := Lib.hid S.out.below
          have OO := Lib.hid S.out.out
          go_wp2
          go_ret2
          exact lists_yes BB.out HR.out HP.out.1 rfl OO.out

set_option maxHeartbeats 2000000 in
theorem rlists_early (A B D : Option Addr) (n a m b k d : Nat) (next head tail : List Int) (w : World) (hA : Ints w A n next) (hB : Ints w B m head) (hD : Ints w D k tail) (h : 1024 < n ∨ m < 1 ∨ 256 < m ∨ k ≠ m) :
    Calls Try.prog 27 #[.agg #[.slice A n a, .slice B m b, .slice D k d]] w (ListsAns next head tail w) := by
  have HNO : Hid (∀ qs, ¬ Rep next head tail qs) := Lib.hid (fun qs r => by
    have e1 := r.few
    have e2 := r.l1
    have e3 := r.l2
    have e4 := r.lh
    have e5 := r.lt
    have := hA.1
    have := hB.1
    have := hD.1
    omega)
  have K1 := Bk.new w 24 #[.slice A n a, .slice B m b, .slice D k d]
  have a0 := K1.cell 0
  have a1 := K1.cell 1
  have a2 := K1.cell 2
  simp at a0 a1 a2
  have hn := Nat.le_trans (Nat.le_mul_of_pos_right n (by omega : 0 < 8)) hA.2.1
  have hm := Nat.le_trans (Nat.le_mul_of_pos_right m (by omega : 0 < 8)) hB.2.1
  have hk := Nat.le_trans (Nat.le_mul_of_pos_right k (by omega : 0 < 8)) hD.2.1
  have BB := Lib.hid ((Below.refl w.heap.size w).alloc (Nat.le_refl _) (.cells #[.slice A n a, .slice B m b, .slice D k d] 24))
  clear hA hB hD K1
  by_cases h1 : 1024 < n
  · clear h
    go_enter Try.func27, Try.ntmps27
    go_wp2
    go_ret2
    exact lists_no BB.out HNO.out rfl
  · by_cases h2 : m < 1
    · clear h
      go_enter Try.func27, Try.ntmps27
      go_wp2
      go_ret2
      exact lists_no BB.out HNO.out rfl
    · by_cases h3 : 256 < m
      · clear h
        go_enter Try.func27, Try.ntmps27
        go_wp2
        go_ret2
        exact lists_no BB.out HNO.out rfl
      · have h4 : ((k : Int) != (m : Int)) = true := by simp; omega
        clear h
        go_enter Try.func27, Try.ntmps27
        go_wp2
        go_ret2
        exact lists_no BB.out HNO.out rfl

theorem rlists_any (A B D : Option Addr) (n a m b k d : Nat) (next head tail : List Int) (w : World) (hA : Ints w A n next) (hB : Ints w B m head) (hD : Ints w D k tail) :
    Calls Try.prog 27 #[.agg #[.slice A n a, .slice B m b, .slice D k d]] w (ListsAns next head tail w) := by
  by_cases h : 1024 < n ∨ m < 1 ∨ 256 < m ∨ k ≠ m
  · exact rlists_early A B D n a m b k d next head tail w hA hB hD h
  · obtain rfl : k = m := by omega
    exact rlists_main A B D n a k b d next head tail w hA hB hD (by omega) (by omega) (by omega)

end Go.Proofs.Ytiheeehegjfmgaa

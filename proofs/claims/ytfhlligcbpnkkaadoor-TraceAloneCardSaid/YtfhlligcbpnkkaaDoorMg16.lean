import Derived.Test.YtfhlligcbpnkkaaDoorMg11
import Derived.Test.YtfhlligcbpnkkaaDoorMg15
import Derived.Test.YtfhlligcbpnkkaaDoorMg10
import Derived.OwnWalk
import Derived.Test.YtfhlligcbpnkkaaDoorMg14
import Derived.Deep.LoopGhost
import Derived.Deep.CutBlock
import Derived.Deep.QuietTactic
import Derived.BigQuiet
import Derived.Test.YtfhlligcbpnkkaaDoorMg12

/-
  Layer 18: words of Tasks: the tasks born among the first events, what is handed back.
-/
namespace Go.Proofs.YtfhlligcbpnkkaaDoor
open Go.RowKit

theorem Tryd.tkInfo : (Tryd.prog.info? 44).map (fun i => (i.zero, i.size, i.bytes)) = some (some (.agg #[.int .i64 0, .int .i64 0, .int .i64 0, .int .i64 0, .int .i64 0, .int .i64 0, .int .i64 0, .int .i64 0, .int .i64 0, .int .i64 0, .int .i64 0]), 11, 88) := by kernel_rfl
/-- The tasks that were born among the first k events. -/
noncomputable def tasksK (P : List (List I3)) (l : List I3) (k : Nat) : List Tk := ((l.take k).filter fun x => decide (x.1 = 1)).map fun x => (oneT P (ofR l x.2.1)).getD zT
theorem tasksK_next {P : List (List I3)} {l : List I3} {k : Nat} (h : k < l.length) : tasksK P l (k + 1) = if (ith l k).1 = 1 then tasksK P l k ++ [(oneT P (ofR l (ith l k).2.1)).getD zT] else tasksK P l k := by
  unfold tasksK
  rw [ith_takeT h, List.filter_append, List.map_append]
  by_cases e : (ith l k).1 = 1 <;> simp [e]
theorem tasksK_len (P : List (List I3)) (l : List I3) (k : Nat) : (tasksK P l k).length ≤ k := by
  unfold tasksK
  rw [List.length_map]
  exact Nat.le_trans (List.length_filter_le _ _) (by rw [List.length_take]; exact Nat.min_le_left _ _)
/-- What Tasks hands back. -/
def TasksP (r : List Tk × Int) (w : World) (e : Ending) (w' : World) : Prop := ∃ A c, e = .returned (.tuple #[.slice A r.1.length c, .int .i64 r.2]) ∧ OwnTk 44 w' w.heap.size A c r.1 ∧ Below w.heap.size w w'
theorem OwnTk.base {E : TypeId} {w : World} {base base' : Nat} {A : Option Addr} {c : Nat} {l : List Tk} (h : OwnTk E w base A c l) (hb : base' ≤ base) : OwnTk E w base' A c l := by
  obtain ⟨h0, h1, h2⟩ := h
  refine ⟨h0, h1, ?_⟩
  rcases h2 with h2 | ⟨g, cap, cur, e1, e2, e3⟩
  · exact .inl h2
  · exact .inr ⟨g, cap, cur, e1, Nat.le_trans hb e2, e3⟩

end Go.Proofs.YtfhlligcbpnkkaaDoor

/-
  Layer 18, the program: follow, Check, Tasks.
-/
namespace Go.Proofs.YtfhlligcbpnkkaaDoor
open Go.RowKit

/-- What follow hands back, if it goes through the events. -/
def FolR (P : List (List I3)) (l : List I3) (w : World) (e : Ending) (w' : World) : Prop :=
  ∃ g B, e = .returned (.tuple #[.map (some g), .int .i64 (badT P l : Int), .int .i64 0]) ∧ Below w.heap.size w w' ∧ (badT P l = l.length → ∃ n f, MapT P l B w' g n f)
theorem okL_of {P : List (List I3)} (h : errL P = 0) : okL P := Classical.byContradiction fun q => by rw [errL_no q] at h; cases h

set_option maxHeartbeats 1000000 in
theorem follow_no (F A : Option Addr) (np cp n c : Nat) (P : List (List I3)) (l : List I3) (w : World) (hF : Fol w) (hP : Prgs w F np P) (hl : Prog w A n c l) (h : ¬ (errL P = 0 ∧ l.length ≤ 65536)) :
    Calls Tryd.prog 25 #[.slice F np cp, .slice A n c] w (RetB (.tuple #[.map none, .int .i64 0, .int .i64 1]) w) := by
  have HF0 := Lib.hid hF
  have HPP := Lib.hid hP
  have HL := Lib.hid hl
  have LX := Lib.hid hl.1
  have hnc := hl.2.1
  clear hF hP hl
  by_cases he : errL P = 0
  · have HE := Lib.hid he
    have t1 : decide (65536 < (n : Int)) = true := decide_eq_true (by have := LX.out; have : ¬ l.length ≤ 65536 := fun q => h ⟨he, q⟩; omega)
    have t1n : decide (65536 < n) = true := decide_eq_true (by have := LX.out; have : ¬ l.length ≤ 65536 := fun q => h ⟨he, q⟩; omega)
    clear he h
    obtain ⟨kb0, hb0⟩ := lay1 w #[.slice F np cp] 22
    obtain ⟨V, hV⟩ : ∃ V, w.alloc (.cells #[.slice F np cp] 22) = V := ⟨_, rfl⟩
    rw [hV] at hb0 kb0
    have HV := Lib.hid hV
    have BB := Lib.hid hb0
    have KG := Lib.hid kb0
    have HBG : Hid (w.heap.size ≤ w.heap.size) := Lib.hid (by omega)
    clear hV hb0 kb0
    go_enter Tryd.func25, Tryd.ntmps25
    go_upto_region 1 with fail
    rw [HV.out]
    clear HV
    have qG_0 := KG.out.one
    have lG := KG.out.lt
    go_wp2_with fail
    refine (checkAll_any F np cp P _ (HPP.out.below BB.out)).mono ?_
    rw [HE.out]
    try dsimp only
    rintro e U1 ⟨rfl, bU1⟩
    clear qG_0 lG
    replace KG := Lib.hid (KG.out.below bU1 KG.out.lt)
    replace BB := Lib.hid (below3 BB.out bU1)
    clear bU1
    go_wp2_with fail
    exact bodyPost_ret (results_tmp3 rfl _ _ _) rfl (by exact ⟨rfl, BB.out⟩)
  · have HE : Hid (errL P = 1) := Lib.hid (errL_no fun q => he (errL_ok q))
    clear he h
    obtain ⟨kb0, hb0⟩ := lay1 w #[.slice F np cp] 22
    obtain ⟨V, hV⟩ : ∃ V, w.alloc (.cells #[.slice F np cp] 22) = V := ⟨_, rfl⟩
    rw [hV] at hb0 kb0
    have HV := Lib.hid hV
    have BB := Lib.hid hb0
    have KG := Lib.hid kb0
    have HBG : Hid (w.heap.size ≤ w.heap.size) := Lib.hid (by omega)
    clear hV hb0 kb0
    go_enter Tryd.func25, Tryd.ntmps25
    go_upto_region 1 with fail
    rw [HV.out]
    clear HV
    have qG_0 := KG.out.one
    have lG := KG.out.lt
    go_wp2_with fail
    refine (checkAll_any F np cp P _ (HPP.out.below BB.out)).mono ?_
    rw [HE.out]
    try dsimp only
    rintro e U1 ⟨rfl, bU1⟩
    clear qG_0 lG
    replace KG := Lib.hid (KG.out.below bU1 KG.out.lt)
    replace BB := Lib.hid (below3 BB.out bU1)
    clear bU1
    go_wp2_with fail
    exact bodyPost_ret (results_tmp3 rfl _ _ _) rfl (by exact ⟨rfl, BB.out⟩)

set_option maxHeartbeats 4000000 in
theorem follow_ok (F A : Option Addr) (np cp n c : Nat) (P : List (List I3)) (l : List I3) (w : World) (hF : Fol w) (hP : Prgs w F np P) (hl : Prog w A n c l) (h : errL P = 0 ∧ l.length ≤ 65536) :
    Calls Tryd.prog 25 #[.slice F np cp, .slice A n c] w (FolR P l w) := by
  have HF0 := Lib.hid hF
  have HPP := Lib.hid hP
  have HL := Lib.hid hl
  have LX := Lib.hid hl.1
  have hnc := hl.2.1
  clear hF hP hl
  have HE := Lib.hid h.1
  have HN : Hid (n ≤ 65536) := Lib.hid (by have := LX.out; have := h.2; omega)
  have t1 : decide (65536 < (n : Int)) = false := decide_eq_false (by have := LX.out; have := h.2; omega)
  have t1n : decide (65536 < n) = false := decide_eq_false (by have := LX.out; have := h.2; omega)
  clear h
  by_cases hb : badT P l = l.length
  · have HI : Hid (idxT P l = -1) := Lib.hid (if_pos hb)
    have HBN : Hid (badT P l = n) := Lib.hid (by rw [hb]; exact LX.out)
    clear hb
    obtain ⟨kb0, hb0⟩ := lay1 w #[.slice F np cp] 22
    obtain ⟨V, hV⟩ : ∃ V, w.alloc (.cells #[.slice F np cp] 22) = V := ⟨_, rfl⟩
    rw [hV] at hb0 kb0
    have HV := Lib.hid hV
    have BB := Lib.hid hb0
    have KG := Lib.hid kb0
    have HBG : Hid (w.heap.size ≤ w.heap.size) := Lib.hid (by omega)
    clear hV hb0 kb0
    go_enter Tryd.func25, Tryd.ntmps25
    go_upto_region 1 with fail
    rw [HV.out]
    clear HV
    have qG_0 := KG.out.one
    have lG := KG.out.lt
    go_wp2_with fail
    refine (checkAll_any F np cp P _ (HPP.out.below BB.out)).mono ?_
    rw [HE.out]
    try dsimp only
    rintro e U1 ⟨rfl, bU1⟩
    clear qG_0 lG
    replace KG := Lib.hid (KG.out.below bU1 KG.out.lt)
    replace BB := Lib.hid (below3 BB.out bU1)
    clear bU1
    go_upto_region 3 with fail
    have hsz : (U1.alloc (.map #[] 0)).heap.size = U1.heap.size + 1 := by simp
    have k1 := Bk.new (U1.alloc (.map #[] 0)) 52 #[.map (some U1.heap.size)]
    rw [hsz] at k1
    have bm := (Below.refl (U1.alloc (.map #[] 0)).heap.size (U1.alloc (.map #[] 0))).alloc (Nat.le_refl _) (.cells #[.map (some U1.heap.size)] 52)
    have ba := ((Below.refl U1.heap.size U1).alloc (Nat.le_refl _) (.map #[] 0)).alloc (by rw [hsz]; omega) (.cells #[.map (some U1.heap.size)] 52)
    have hm := (MapT.made P (U1.heap.size + 2) U1).grown bm
    have hs2 : U1.heap.size + 2 = ((U1.alloc (.map #[] 0)).alloc (.cells #[.map (some U1.heap.size)] 52)).heap.size := by simp
    have kg := KG.out.below ba KG.out.lt
    have hwg := BB.out.size
    have hlg := KG.out.lt
    have bb := below3 BB.out ba
    have hf := HF0.out.le bb
    obtain ⟨g, hg⟩ : ∃ g, U1.heap.size = g := ⟨_, rfl⟩
    obtain ⟨W3, hW⟩ : ∃ W, (U1.alloc (.map #[] 0)).alloc (.cells #[.map (some U1.heap.size)] 52) = W := ⟨_, rfl⟩
    rw [hW] at k1 hm hs2 kg bb hf
    rw [hg] at k1 hm hs2 hwg hlg
    have HG := Lib.hid hg
    have HW := Lib.hid hW
    have K1 := Lib.hid k1
    have HM := Lib.hid hm
    have HS2 := Lib.hid hs2
    replace KG := Lib.hid kg
    have HWG := Lib.hid hwg
    have HLG := Lib.hid hlg
    replace BB := Lib.hid bb
    have HF := Lib.hid hf
    clear hg hW k1 hm hs2 kg hwg hlg bb hf bm ba hsz
    have mk : ∀ w, (Instr.makeMap 52 none).run Tryd.prog w = .ok (.map (some w.heap.size)) (w.alloc (.map #[] 0)) := fun w => rfl
    go_upto_region 4 with fail
    clear mk
    rw [HW.out]
    try rw [HG.out]
    clear HW HG
    go_wp2_with fail
    refine (index_tp P l (g + 2) g F np cp A n c W3 HF.out (okL_of HE.out) ⟨0, _, HM.out⟩ (by have := HWG.out; have := HF0.out.1; omega) (by omega) (by rw [HS2.out]; exact Nat.le_refl _) w HPP.out HL.out BB.out (by have := HWG.out; omega) HWG.out (by have := HN.out; omega) (g + 1) w.heap.size K1.out KG.out (by omega) (by have := HWG.out; omega) (by omega) (by have := HLG.out; omega)).mono ?_
    unfold IdxP
    rw [HI.out]
    rintro e U9 ⟨rfl, hb, hm⟩
    have HMM := Lib.hid hm
    have q1 := (K1.out.bt hb (by omega) (by omega)).one
    have l1 := (K1.out.bt hb (by omega) (by omega)).lt
    have HB := Lib.hid (BB.out.trans (hb.below (B0 := w.heap.size) (by have := HWG.out; omega) HWG.out))
    clear hb hm
    go_wp2_with fail
    exact bodyPost_ret (results_tmp3 rfl _ _ _) rfl (by exact ⟨g, g + 2, by rw [HBN.out]; rfl, HB.out, HMM.out⟩)
  · obtain ⟨bk, hbk⟩ : ∃ b, badT P l = b := ⟨_, rfl⟩
    have HI : Hid (idxT P l = (bk : Int)) := Lib.hid (by unfold idxT; rw [if_neg hb, hbk])
    have HBN := Lib.hid hbk
    have t2 : decide ((bk : Int) < 0) = false := decide_eq_false (by omega)
    clear hb hbk
    obtain ⟨kb0, hb0⟩ := lay1 w #[.slice F np cp] 22
    obtain ⟨V, hV⟩ : ∃ V, w.alloc (.cells #[.slice F np cp] 22) = V := ⟨_, rfl⟩
    rw [hV] at hb0 kb0
    have HV := Lib.hid hV
    have BB := Lib.hid hb0
    have KG := Lib.hid kb0
    have HBG : Hid (w.heap.size ≤ w.heap.size) := Lib.hid (by omega)
    clear hV hb0 kb0
    go_enter Tryd.func25, Tryd.ntmps25
    go_upto_region 1 with fail
    rw [HV.out]
    clear HV
    have qG_0 := KG.out.one
    have lG := KG.out.lt
    go_wp2_with fail
    refine (checkAll_any F np cp P _ (HPP.out.below BB.out)).mono ?_
    rw [HE.out]
    try dsimp only
    rintro e U1 ⟨rfl, bU1⟩
    clear qG_0 lG
    replace KG := Lib.hid (KG.out.below bU1 KG.out.lt)
    replace BB := Lib.hid (below3 BB.out bU1)
    clear bU1
    go_upto_region 3 with fail
    have hsz : (U1.alloc (.map #[] 0)).heap.size = U1.heap.size + 1 := by simp
    have k1 := Bk.new (U1.alloc (.map #[] 0)) 52 #[.map (some U1.heap.size)]
    rw [hsz] at k1
    have bm := (Below.refl (U1.alloc (.map #[] 0)).heap.size (U1.alloc (.map #[] 0))).alloc (Nat.le_refl _) (.cells #[.map (some U1.heap.size)] 52)
    have ba := ((Below.refl U1.heap.size U1).alloc (Nat.le_refl _) (.map #[] 0)).alloc (by rw [hsz]; omega) (.cells #[.map (some U1.heap.size)] 52)
    have hm := (MapT.made P (U1.heap.size + 2) U1).grown bm
    have hs2 : U1.heap.size + 2 = ((U1.alloc (.map #[] 0)).alloc (.cells #[.map (some U1.heap.size)] 52)).heap.size := by simp
    have kg := KG.out.below ba KG.out.lt
    have hwg := BB.out.size
    have hlg := KG.out.lt
    have bb := below3 BB.out ba
    have hf := HF0.out.le bb
    obtain ⟨g, hg⟩ : ∃ g, U1.heap.size = g := ⟨_, rfl⟩
    obtain ⟨W3, hW⟩ : ∃ W, (U1.alloc (.map #[] 0)).alloc (.cells #[.map (some U1.heap.size)] 52) = W := ⟨_, rfl⟩
    rw [hW] at k1 hm hs2 kg bb hf
    rw [hg] at k1 hm hs2 hwg hlg
    have HG := Lib.hid hg
    have HW := Lib.hid hW
    have K1 := Lib.hid k1
    have HM := Lib.hid hm
    have HS2 := Lib.hid hs2
    replace KG := Lib.hid kg
    have HWG := Lib.hid hwg
    have HLG := Lib.hid hlg
    replace BB := Lib.hid bb
    have HF := Lib.hid hf
    clear hg hW k1 hm hs2 kg hwg hlg bb hf bm ba hsz
    have mk : ∀ w, (Instr.makeMap 52 none).run Tryd.prog w = .ok (.map (some w.heap.size)) (w.alloc (.map #[] 0)) := fun w => rfl
    go_upto_region 4 with fail
    clear mk
    rw [HW.out]
    try rw [HG.out]
    clear HW HG
    go_wp2_with fail
    refine (index_tp P l (g + 2) g F np cp A n c W3 HF.out (okL_of HE.out) ⟨0, _, HM.out⟩ (by have := HWG.out; have := HF0.out.1; omega) (by omega) (by rw [HS2.out]; exact Nat.le_refl _) w HPP.out HL.out BB.out (by have := HWG.out; omega) HWG.out (by have := HN.out; omega) (g + 1) w.heap.size K1.out KG.out (by omega) (by have := HWG.out; omega) (by omega) (by have := HLG.out; omega)).mono ?_
    unfold IdxP
    rw [HI.out]
    rintro e U9 ⟨rfl, hb, hm⟩
    have HMM := Lib.hid hm
    have q1 := (K1.out.bt hb (by omega) (by omega)).one
    have l1 := (K1.out.bt hb (by omega) (by omega)).lt
    have HB := Lib.hid (BB.out.trans (hb.below (B0 := w.heap.size) (by have := HWG.out; omega) HWG.out))
    clear hb hm
    go_wp2_with fail
    exact bodyPost_ret (results_tmp3 rfl _ _ _) rfl (by exact ⟨g, g + 2, by rw [HBN.out]; rfl, HB.out, HMM.out⟩)

set_option maxHeartbeats 1000000 in
theorem check_pr (F A : Option Addr) (np cp n c : Nat) (P : List (List I3)) (l : List I3) (w : World) (hF : Fol w) (hP : Prgs w F np P) (hl : Prog w A n c l) :
    Calls Tryd.prog 11 #[.slice F np cp, .slice A n c] w (RetB (.tuple #[.int .i64 (chkT P l).1, .int .i64 (chkT P l).2]) w) := by
  by_cases h : errL P = 0 ∧ l.length ≤ 65536
  · have HC := Lib.hid (follow_ok F A np cp n c P l w hF hP hl h)
    rw [chkT_ok h]
    clear h hF hP hl
    go_enter Tryd.func11, Tryd.ntmps11
    go_wp2_with fail
    refine HC.out.mono ?_
    unfold FolR
    rintro e U ⟨g, B, rfl, bU, -⟩
    have BB := Lib.hid bU
    clear bU HC
    go_wp2_with fail
    exact bodyPost_ret (results_tmp2 rfl _ _ _) rfl (by exact ⟨rfl, BB.out⟩)
  · have HC := Lib.hid (follow_no F A np cp n c P l w hF hP hl h)
    rw [chkT_no h]
    clear h hF hP hl
    go_enter Tryd.func11, Tryd.ntmps11
    go_wp2_with fail
    refine HC.out.mono ?_
    rintro e U ⟨rfl, bU⟩
    have BB := Lib.hid bU
    clear bU HC
    go_wp2_with fail
    exact bodyPost_ret (results_tmp2 rfl _ _ _) rfl (by exact ⟨rfl, BB.out⟩)

end Go.Proofs.YtfhlligcbpnkkaaDoor

/-
  Layer 18, the document: Held, Of, Count.
-/
namespace Go.Proofs.YtfhlligcbpnkkaaDoor
open Go.RowKit

theorem Tryd.evInfo : (Tryd.prog.info? 41).map (fun i => (i.zero, i.size, i.bytes)) = some (some (.agg #[.int .i64 0, .int .i64 0, .int .i64 0]), 3, 24) := by kernel_rfl
theorem Bk.c3t {w : World} {g : Nat} {t : TypeId} {c0 c1 c2 : Value} (h : Bk w g t #[c0, c1, c2]) : w.cell? ⟨g, 0, none⟩ = some c0 ∧ w.cell? ⟨g, 1, none⟩ = some c1 ∧ w.cell? ⟨g, 2, none⟩ = some c2 := ⟨h.cell 0, h.cell 1, h.cell 2⟩
theorem prog1_tr (w : World) (E : TypeId) {x y z : Int} (h : FitI (x, y, z)) : Prog (w.alloc (.cells #[.int .i64 x, .int .i64 y, .int .i64 z] E)) (some ⟨w.heap.size, 0, none⟩) 1 1 [(x, y, z)] := by
  have hb := Bk.new w E #[.int .i64 x, .int .i64 y, .int .i64 z]
  obtain ⟨h0, h1, h2⟩ := hb.c3t
  refine ⟨rfl, by omega, fun q hq => by simp at hq; subst hq; exact h, fun _ => ⟨w.heap.size, 0, rfl, hb.lt, fun j hj => ?_⟩⟩
  obtain rfl : j = 0 := by omega
  exact ⟨h0, h1, h2⟩
theorem OwnP.capT {E : TypeId} {w : World} {base : Nat} {A : Option Addr} {c : Nat} {p : List I3} (h : OwnP E w base A c p) {w1 : World} (hb : Below w.heap.size w w1) : OwnP E w1 base A c p := h.below hb
theorem OwnP.blockT {E : TypeId} {w : World} {base : Nat} {A : Option Addr} {c : Nat} {p : List I3} (h : OwnP E w base A c p) {n d : Nat} : ∀ k, (Value.slice A n d).ownBlock = some k → base ≤ k := h.block
/-- New events are handed back. -/
def NewEv (l : List I3) (w : World) (e : Ending) (w' : World) : Prop := ∃ A c, e = .returned (.slice A l.length c) ∧ OwnP 41 w' w.heap.size A c l ∧ Below w.heap.size w w'
theorem held_tr (x : Int) (w : World) : Calls Tryd.prog 22 #[.int .i64 x] w (RetW (.int .i64 (heldR x)) w) := by
  by_cases h0 : 4 ≤ x
  · by_cases h1 : x ≤ 7
    · rw [show heldR x = x - 1 from if_pos ⟨h0, h1⟩]
      have e1 : IntKind.i64.wrap (x - 1) = x - 1 := by rw [IntKind.wrap_i64]; omega
      replace h0 := decide_eq_true h0
      replace h1 := decide_eq_true h1
      go_enter Tryd.func22, Tryd.ntmps22
      go_wp2_with fail
      go_ret
      exact ⟨rfl, rfl⟩
    · rw [show heldR x = 0 from if_neg (by omega)]
      replace h0 := decide_eq_true h0
      replace h1 := decide_eq_false h1
      go_enter Tryd.func22, Tryd.ntmps22
      go_wp2_with fail
      go_ret
      exact ⟨rfl, rfl⟩
  · rw [show heldR x = 0 from if_neg (by omega)]
    replace h0 := decide_eq_false h0
    go_enter Tryd.func22, Tryd.ntmps22
    go_wp2_with fail
    go_ret
    exact ⟨rfl, rfl⟩

set_option maxHeartbeats 1000000 in
theorem count_tr (A : Option Addr) (n c : Nat) (l : List I3) (q : Int) (w : World) (hp : Prog w A n c l) :
    Calls Tryd.prog 20 #[.slice A n c, .int .i64 q] w (RetB (.int .i64 (cntR l q : Int)) w) := by
  have HP := Lib.hid hp
  have LX := Lib.hid hp.1
  have hnc := hp.2.1
  clear hp
  go_enter Tryd.func20, Tryd.ntmps20
  go_wp2_with fail
  go_loopw [5, 10] (fun u t wr => ∃ k : Nat, k ≤ n ∧ t = .int .i64 k ∧ u = .int .i64 (cntR (l.take k) q : Int) ∧ Hid (Below w.heap.size w wr)) (fun _ t _ => n - (intOf t).toNat)
  case atStart => exact ⟨0, Nat.zero_le _, rfl, rfl, Lib.hid (Below.refl _ _)⟩
  case round =>
    rename World => wr
    obtain ⟨k, hk, rfl, rfl, BB⟩ := hrel
    by_cases hkn : k < n
    · obtain ⟨b, o, rfl, hb, c0, c1, c2⟩ := (HP.out.below BB.out).at_ hkn
      obtain ⟨f0, f1, f2⟩ := HP.out.fit hkn
      have hkl : k < l.length := by rw [LX.out]; exact hkn
      have hnx := cntR_next hkl q
      obtain ⟨⟨x, y, z⟩, hz⟩ : ∃ e, ith l k = e := ⟨_, rfl⟩
      have ex : jO l k = x := by unfold jO; rw [hz]
      have ey : jA l k = y := by unfold jA; rw [hz]
      have ez : jB l k = z := by unfold jB; rw [hz]
      rw [ex] at c0 f0
      rw [ey] at c1 f1
      rw [ez] at c2 f2
      rw [hz] at hnx
      dsimp only at hnx
      clear ex ey ez hz
      have FX : Hid (FitI (x, y, z)) := Lib.hid ⟨f0, f1, f2⟩
      have kt := Bk.new wr 41 #[.int .i64 x, .int .i64 y, .int .i64 z]
      have ba := (Below.refl wr.heap.size wr).alloc (Nat.le_refl _) (.cells #[.int .i64 x, .int .i64 y, .int .i64 z] 41)
      have hle : cntR (l.take k) q ≤ k := Nat.le_trans (cntR_le _ _) (by rw [List.length_take]; exact Nat.min_le_left _ _)
      obtain ⟨v, hv⟩ : ∃ v, cntR (l.take k) q = v := ⟨_, rfl⟩
      rw [hv] at hnx hle ⊢
      have e1 : IntKind.i64.wrap ((v : Int) + 1) = (v : Int) + 1 := by rw [IntKind.wrap_i64]; omega
      have B2 := Lib.hid (below3 BB.out ba)
      obtain ⟨W, hW⟩ : ∃ W, wr.alloc (.cells #[.int .i64 x, .int .i64 y, .int .i64 z] 41) = W := ⟨_, rfl⟩
      obtain ⟨g, hg⟩ : ∃ g, wr.heap.size = g := ⟨_, rfl⟩
      rw [hW] at kt B2
      rw [hg] at kt
      have HW := Lib.hid hW
      have HG := Lib.hid hg
      have KV := Lib.hid kt
      clear hW hg kt ba hv f0 f1 f2
      by_cases he : x = q
      · rw [if_pos he] at hnx
        have t0 : (x == q) = true := by simpa using he
        have HN := Lib.hid hnx
        clear he hnx
        go_upto_region 5 with fail
        rw [HW.out, HG.out]
        clear HW HG c0 c1 c2
        obtain ⟨q0, q1, q2⟩ := KV.out.c3t
        have lq := KV.out.lt
        go_wp2_with fail
        go_roundw
        case rel => exact ⟨k + 1, by omega, by go_num, by rw [HN.out]; go_num, B2⟩
        case measure => simp [intOf]; omega
      · rw [if_neg he] at hnx
        have t0 : (x == q) = false := by simpa using he
        have HN := Lib.hid hnx
        clear he hnx
        go_upto_region 5 with fail
        rw [HW.out, HG.out]
        clear HW HG c0 c1 c2
        obtain ⟨q0, q1, q2⟩ := KV.out.c3t
        have lq := KV.out.lt
        go_wp2_with fail
        go_roundw
        case rel => exact ⟨k + 1, by omega, by go_num, by rw [HN.out]; rfl, B2⟩
        case measure => simp [intOf]; omega
    · have HE : Hid (cntR (l.take k) q = cntR l q) := Lib.hid (by rw [List.take_of_length_le (by have := LX.out; omega)])
      go_wp2_with fail
      go_ret
      exact ⟨by rw [← HE.out]; rfl, BB.out⟩

set_option maxHeartbeats 1000000 in
theorem of_tr (A : Option Addr) (n c : Nat) (l : List I3) (q : Int) (w : World) (hn : n * 24 ≤ 140737488351232) (hp : Prog w A n c l) :
    Calls Tryd.prog 18 #[.slice A n c, .int .i64 q] w (NewEv (ofR l q) w) := by
  have HP := Lib.hid hp
  have LX := Lib.hid hp.1
  have hnc := hp.2.1
  clear hp
  go_enter Tryd.func18, Tryd.ntmps18
  go_wp2_with fail
  go_loopw [5, 10] (fun u t wr => ∃ (k : Nat) (D : Option Addr) (d : Nat), k ≤ n ∧ t = .int .i64 k ∧ u = .slice D (ofR (l.take k) q).length d ∧ Hid (Below w.heap.size w wr) ∧ Hid (OwnP 41 wr w.heap.size D d (ofR (l.take k) q))) (fun _ t _ => n - (intOf t).toNat)
  case atStart => exact ⟨0, none, 0, Nat.zero_le _, rfl, rfl, Lib.hid (Below.refl _ _), Lib.hid (OwnP.nil_ _ _ _)⟩
  case round =>
    rename World => wr
    obtain ⟨k, D, d, hk, rfl, rfl, BB, OD⟩ := hrel
    by_cases hkn : k < n
    · obtain ⟨b, o, rfl, hb, c0, c1, c2⟩ := (HP.out.below BB.out).at_ hkn
      obtain ⟨f0, f1, f2⟩ := HP.out.fit hkn
      have hkl : k < l.length := by rw [LX.out]; exact hkn
      have hnx := ofR_next hkl q
      obtain ⟨⟨x, y, z⟩, hz⟩ : ∃ e, ith l k = e := ⟨_, rfl⟩
      have ex : jO l k = x := by unfold jO; rw [hz]
      have ey : jA l k = y := by unfold jA; rw [hz]
      have ez : jB l k = z := by unfold jB; rw [hz]
      rw [ex] at c0 f0
      rw [ey] at c1 f1
      rw [ez] at c2 f2
      rw [hz] at hnx
      dsimp only at hnx
      clear ex ey ez hz
      have FX : Hid (FitI (x, y, z)) := Lib.hid ⟨f0, f1, f2⟩
      have kt := Bk.new wr 41 #[.int .i64 x, .int .i64 y, .int .i64 z]
      have ba := (Below.refl wr.heap.size wr).alloc (Nat.le_refl _) (.cells #[.int .i64 x, .int .i64 y, .int .i64 z] 41)
      have hle : (ofR (l.take k) q).length ≤ k := Nat.le_trans (ofR_len _ _) (by rw [List.length_take]; exact Nat.min_le_left _ _)
      obtain ⟨v, hv⟩ : ∃ v, ofR (l.take k) q = v := ⟨_, rfl⟩
      rw [hv] at hnx hle OD ⊢
      have B2 := Lib.hid (below3 BB.out ba)
      replace OD := Lib.hid (OD.out.below ba)
      obtain ⟨W, hW⟩ : ∃ W, wr.alloc (.cells #[.int .i64 x, .int .i64 y, .int .i64 z] 41) = W := ⟨_, rfl⟩
      obtain ⟨g, hg⟩ : ∃ g, wr.heap.size = g := ⟨_, rfl⟩
      rw [hW] at kt B2 OD
      rw [hg] at kt
      have HW := Lib.hid hW
      have HG := Lib.hid hg
      have KV := Lib.hid kt
      clear hW hg kt ba hv f0 f1 f2
      by_cases he : y = q
      · rw [if_pos he] at hnx
        have t0 : (y == q) = true := by simpa using he
        have HN := Lib.hid hnx
        clear he hnx
        go_upto_region 5 with fail
        rw [HW.out, HG.out]
        clear HW HG c0 c1 c2
        obtain ⟨q0, q1, q2⟩ := KV.out.c3t
        have lq := KV.out.lt
        have bl := Lib.hid ((Below.refl W.heap.size W).alloc (Nat.le_refl _) (.cells #[.int .i64 x, .int .i64 y, .int .i64 z] 41))
        go_wp2_with (at_builtin; refine wpList_append_prog _ rfl _ _ 23 rfl 41 _ rfl Tryd.underlying23 Tryd.evInfo w.heap.size D d v v.length rfl rfl (OD.out.below bl.out) (some ⟨W.heap.size, 0, none⟩) 1 1 [(x, y, z)] rfl (prog1_tr W 41 FX.out) (by omega) (Nat.le_trans B2.out.size bl.out.size) ?_; intro D1 d1 w1 ho hg; have HO := Lib.hid ho; have HB := Lib.hid ((below3 B2.out bl.out).grown hg (Nat.le_trans B2.out.size bl.out.size) (OD.out.blockT)); clear ho hg)
        go_roundw
        case rel => exact ⟨k + 1, D1, d1, by omega, by go_num, by rw [HN.out]; simp, HB, by rw [HN.out]; exact HO⟩
        case measure => simp [intOf]; omega
      · rw [if_neg he] at hnx
        have t0 : (y == q) = false := by simpa using he
        have HN := Lib.hid hnx
        clear he hnx
        go_upto_region 5 with fail
        rw [HW.out, HG.out]
        clear HW HG c0 c1 c2
        obtain ⟨q0, q1, q2⟩ := KV.out.c3t
        have lq := KV.out.lt
        go_wp2_with fail
        go_roundw
        case rel => exact ⟨k + 1, D, d, by omega, by go_num, by rw [HN.out], B2, by rw [HN.out]; exact OD⟩
        case measure => simp [intOf]; omega
    · have HE : Hid (ofR (l.take k) q = ofR l q) := Lib.hid (by rw [List.take_of_length_le (by have := LX.out; omega)])
      go_wp2_with fail
      go_ret
      exact ⟨D, d, by rw [← HE.out]; rfl, by rw [← HE.out]; exact OD.out, BB.out⟩

end Go.Proofs.YtfhlligcbpnkkaaDoor

/-
  Layer 18, the program: Tasks.
-/
namespace Go.Proofs.YtfhlligcbpnkkaaDoor
open Go.RowKit

set_option maxRecDepth 100000 in
set_option maxHeartbeats 8000000 in
theorem tasks_pr (F A : Option Addr) (np cp n c : Nat) (P : List (List I3)) (l : List I3) (w : World) (hF : Fol w) (hP : Prgs w F np P) (hl : Prog w A n c l) :
    Calls Tryd.prog 13 #[.slice F np cp, .slice A n c] w (TasksP (tasksT P l) w) := by
  have HL := Lib.hid hl
  have LX := Lib.hid hl.1
  have hnc := hl.2.1
  by_cases h : errL P = 0 ∧ l.length ≤ 65536
  · by_cases hb : badT P l = l.length
    · have HC := Lib.hid (follow_ok F A np cp n c P l w hF hP hl h)
      rw [tasksT_ok h hb]
      have HE : Hid (badT P l = n) := Lib.hid (by rw [hb, LX.out])
      have HB := Lib.hid hb
      have hn6 : n ≤ 65536 := by have := h.2; have := LX.out; omega
      have t0 : decide ((n : Int) < (n : Int)) = false := decide_eq_false (by omega)
      clear h hb hF hP hl
      go_enter Tryd.func13, Tryd.ntmps13
      go_wp2_with fail
      refine HC.out.mono ?_
      unfold FolR
      rw [HE.out]
      rintro e W1 ⟨g, B, rfl, bU, hm⟩
      obtain ⟨m, f, hm⟩ := hm LX.out.symm
      have HM := Lib.hid hm
      have B0 := Lib.hid bU
      clear hm bU HC
      have BB := Lib.hid (Below.refl W1.heap.size W1)
      go_wp2_with fail
      go_loopw [9, 28] (fun u t wr => ∃ (k : Nat) (D : Option Addr) (d : Nat), k ≤ n ∧ t = .int .i64 k ∧ u = .slice D (tasksK P l k).length d ∧ Hid (Below W1.heap.size W1 wr) ∧ Hid (OwnTk 44 wr W1.heap.size D d (tasksK P l k))) (fun _ t _ => n - (intOf t).toNat)
      case atStart => exact ⟨0, none, 0, Nat.zero_le _, rfl, rfl, BB, Lib.hid (OwnTk.nil_ _ _ _)⟩
      case round =>
        clear BB
        rename World => wr
        obtain ⟨k, D, d, hk, rfl, rfl, BB, OD⟩ := hrel
        by_cases hkn : k < n
        · have hft := HL.out.fit hkn
          obtain ⟨b, o, rfl, hb, c0, c1, c2⟩ := (HL.out.below (B0.out.trans (BB.out.mono B0.out.size))).at_ hkn
          have hkl : k < l.length := by rw [LX.out]; exact hkn
          have hnx := tasksK_next (P := P) hkl
          have hin : ith l k ∈ l := mem_ith.2 ⟨k, hkl, rfl⟩
          obtain ⟨⟨kd, xi, xa⟩, hz⟩ : ∃ e, ith l k = e := ⟨_, rfl⟩
          rw [show jO l k = kd by unfold jO; rw [hz]] at c0 hft
          rw [show jA l k = xi by unfold jA; rw [hz]] at c1 hft
          rw [show jB l k = xa by unfold jB; rw [hz]] at c2 hft
          rw [hz] at hnx hin
          dsimp only at hnx
          have HFX : Hid (Fit xi) := Lib.hid hft.2.1
          have HIN := Lib.hid hin
          clear hz hft hin
          have hle := tasksK_len P l k
          obtain ⟨v, hv⟩ : ∃ v, tasksK P l k = v := ⟨_, rfl⟩
          rw [hv] at hnx hle OD ⊢
          clear hv
          have kt := Bk.new wr 41 #[.int .i64 kd, .int .i64 xi, .int .i64 xa]
          have ba := (Below.refl wr.heap.size wr).alloc (Nat.le_refl _) (.cells #[.int .i64 kd, .int .i64 xi, .int .i64 xa] 41)
          replace BB := Lib.hid (below3 BB.out ba)
          replace OD := Lib.hid (OD.out.below ba)
          obtain ⟨W, hW⟩ : ∃ W, wr.alloc (.cells #[.int .i64 kd, .int .i64 xi, .int .i64 xa] 41) = W := ⟨_, rfl⟩
          obtain ⟨g7, hg⟩ : ∃ g, wr.heap.size = g := ⟨_, rfl⟩
          rw [hW] at kt BB OD
          rw [hg] at kt
          have HW := Lib.hid hW
          have HG := Lib.hid hg
          have K7 := Lib.hid kt
          clear hW hg kt ba
          by_cases he : kd = 1
          · rw [if_pos he] at hnx
            have t0 : (kd == 1) = true := by simpa using he
            have HN := Lib.hid hnx
            clear he hnx
            go_upto_region 10 with fail
            rw [HW.out, HG.out]
            clear HW HG c0 c1 c2 hb
            obtain ⟨q0, q1, q2⟩ := K7.out.c3t
            have l7 := K7.out.lt
            cases hf : f xi with
            | none => exact absurd ((HM.out.dom xi).1 hf) (fun q => by have := ofR_mem.2 ⟨HIN.out, rfl⟩; rw [show (kd, xi, xa).2.1 = xi from rfl, q] at this; cases this)
            | some b2 =>
              obtain ⟨-, T, y, r, -, h3, h4⟩ := HM.out.at_ xi b2 hf
              have hg := (HM.out.map.below BB.out).get HFX.out
              rw [hf] at hg
              simp only [ptrV] at hg
              rw [h3] at HN
              have HT1 := Lib.hid (tks1 W 44 T)
              have KT := Lib.hid (h4.below BB.out h4.lt)
              clear h3 h4 hf
              obtain ⟨id, tn, pg, pc, un, k0, k1, k2, k3, st, rn⟩ := T
              obtain ⟨lk, li, la⟩ := y
              unfold tkc at KT
              dsimp only [tc, Option.getD] at KT HT1 HN
              obtain ⟨qT_0, qT_1, qT_2, qT_3, qT_4, qT_5, qT_6, qT_7, qT_8, qT_9, qT_10, qT_11, qT_12, qT_13⟩ := KT.out.c14t
              have lT := KT.out.lt
              have bl := Lib.hid ((Below.refl W.heap.size W).alloc (Nat.le_refl _) (.cells #[.int .i64 id, .int .i64 tn, .int .i64 pg, .int .i64 pc, .int .i64 un, .int .i64 k0, .int .i64 k1, .int .i64 k2, .int .i64 k3, .int .i64 st, .int .i64 rn] 44))
              go_wp2_with (at_builtin; refine wpList_append_tks _ rfl _ _ 29 rfl 44 _ rfl Tryd.underlying29 Tryd.tkInfo W1.heap.size D d v v.length rfl rfl (OD.out.below bl.out) (some ⟨W.heap.size, 0, none⟩) 1 1 [⟨id, tn, pg, pc, un, k0, k1, k2, k3, st, rn⟩] rfl HT1.out (by omega) (Nat.le_trans BB.out.size bl.out.size) ?_; intro D1 d1 w1 ho hg; have HO := Lib.hid ho; have HB := Lib.hid ((below3 BB.out bl.out).grown hg (Nat.le_trans BB.out.size bl.out.size) (OD.out.block)); clear ho hg)
              go_roundw
              case rel => exact ⟨k + 1, D1, d1, by omega, by go_num, by rw [HN.out]; simp, HB, by rw [HN.out]; exact HO⟩
              case measure => simp [intOf]; omega
          · rw [if_neg he] at hnx
            have t0 : (kd == 1) = false := by simpa using he
            have HN := Lib.hid hnx
            clear he hnx
            go_upto_region 10 with fail
            rw [HW.out, HG.out]
            clear HW HG c0 c1 c2 hb
            obtain ⟨q0, q1, q2⟩ := K7.out.c3t
            have l7 := K7.out.lt
            go_wp2_with fail
            go_roundw
            case rel => exact ⟨k + 1, D, d, by omega, by go_num, by rw [HN.out], BB, by rw [HN.out]; exact OD⟩
            case measure => simp [intOf]; omega
        · have HE2 : Hid (tasksK P l k = tasksL P l) := Lib.hid (by unfold tasksK tasksL; rw [List.take_of_length_le (by have := LX.out; omega)])
          rw [HE2.out] at OD ⊢
          go_wp2_with fail
          exact bodyPost_ret (results_tmp2 rfl _ _ _) rfl (by exact ⟨D, d, rfl, OD.out.base B0.out.size, B0.out.trans (BB.out.mono B0.out.size)⟩)
    · have HC := Lib.hid (follow_ok F A np cp n c P l w hF hP hl h)
      rw [tasksT_bad h hb]
      obtain ⟨bd, hbd⟩ : ∃ b, badT P l = b := ⟨_, rfl⟩
      have HE := Lib.hid hbd
      have t0 : decide ((bd : Int) < (n : Int)) = true := decide_eq_true (by have := badT_le P l; have := LX.out; omega)
      have t0n : decide (bd < n) = true := decide_eq_true (by have := badT_le P l; have := LX.out; omega)
      clear h hb hbd hF hP hl
      go_enter Tryd.func13, Tryd.ntmps13
      go_wp2_with fail
      refine HC.out.mono ?_
      unfold FolR
      rw [HE.out]
      rintro e U ⟨g, B, rfl, bU, -⟩
      have BB := Lib.hid bU
      clear bU HC
      go_wp2_with fail
      exact bodyPost_ret (results_tmp2 rfl _ _ _) rfl (by exact ⟨none, 0, rfl, OwnTk.nil_ _ _ _, BB.out⟩)
  · have HC := Lib.hid (follow_no F A np cp n c P l w hF hP hl h)
    rw [tasksT_no h]
    clear h hF hP hl
    go_enter Tryd.func13, Tryd.ntmps13
    go_wp2_with fail
    refine HC.out.mono ?_
    rintro e U ⟨rfl, bU⟩
    have BB := Lib.hid bU
    clear bU HC
    go_wp2_with fail
    exact bodyPost_ret (results_tmp2 rfl _ _ _) rfl (by exact ⟨none, 0, rfl, OwnTk.nil_ _ _ _, BB.out⟩)

end Go.Proofs.YtfhlligcbpnkkaaDoor

/-
  Layer 18: the chapter's example: its mathematics.
-/
namespace Go.Proofs.YtfhlligcbpnkkaaDoor
open Go.RowKit

def pLive : List I3 := [(1, 1, 0), (9, 0, 0)]
def mLive : List I3 := [(1, 7, 0), (2, 7, 1), (2, 7, 9), (5, 7, 0)]
theorem okP_live : okP pLive := by unfold okP; decide
theorem okL_live : okL [pLive] := by
  refine ⟨by decide, by decide, fun j hj => ?_⟩
  obtain rfl : j = 0 := by simp at hj; omega
  exact ⟨okP_live, by decide⟩
def tLive0 : Tk := ⟨7, 0, 0, 0, 0, -1, -1, -1, -1, 1, 0⟩
def tLive1 : Tk := ⟨7, 0, 0, 1, 0, -1, -1, -1, -1, 1, 1⟩
def tLive2 : Tk := ⟨7, 0, 0, 2, 0, -1, -1, -1, -1, 1, 2⟩
theorem okT_live (pc s : Int) (rn : Int) (h1 : 0 ≤ pc ∧ pc < 33) (h2 : 0 ≤ rn ∧ rn ≤ 5) (hs : stB s = true) : okT ⟨7, 0, 0, pc, 0, -1, -1, -1, -1, s, rn⟩ := by
  unfold okT hdT kpT
  dsimp only
  exact ⟨⟨by omega, by omega, by omega, h1, by omega, by omega, hs⟩, by omega⟩
theorem okF_live (pc s : Int) (rn : Int) (h1 : 0 ≤ pc ∧ pc ≤ 2) (h2 : 0 ≤ rn ∧ rn ≤ 5) (hs : stB s = true) : okF ⟨7, 0, 0, pc, 0, -1, -1, -1, -1, s, rn⟩ pLive :=
  ⟨okT_live pc s rn (by omega) h2 hs, okP_live, by show pc ≤ (2 : Int); omega, .inl rfl⟩
theorem born_live : bornT [pLive] (1, 7, 0) = some tLive0 := by
  unfold bornT
  exact if_pos ⟨rfl, okT_live 0 1 0 (by omega) (by omega) (by decide), by decide⟩
theorem did1_live : doA pLive tLive0 (1, 7, 0) 1 = some tLive1 := by
  have h1 := okF_live 0 1 0 (by omega) (by omega) (by decide)
  have h2 := okF_live 0 2 0 (by omega) (by omega) (by decide)
  have e1 : nextR tLive0 pLive = (atI pLive 0, 0) := nextR_yes h1
  have e2 : doR { tLive0 with st := 2 } pLive = unitR { tLive0 with st := 2 } pLive := doR_yes h2
  unfold doA
  rw [e1, e2, if_pos ⟨rfl, by decide, by decide, by decide⟩]
  rfl
theorem did2_live : doA pLive tLive1 (2, 7, 1) 9 = some tLive2 := by
  have h1 := okF_live 1 1 1 (by omega) (by omega) (by decide)
  have h2 := okF_live 1 2 1 (by omega) (by omega) (by decide)
  have e1 : nextR tLive1 pLive = (atI pLive 1, 0) := nextR_yes h1
  have e2 : doR { tLive1 with st := 2 } pLive = unitR { tLive1 with st := 2 } pLive := doR_yes h2
  unfold doA
  rw [e1, e2, if_pos ⟨rfl, by decide, by decide, by decide⟩]
  rfl
theorem one_live : oneT [pLive] mLive = some { tLive2 with st := 7 } := by
  have s1 : stepT [pLive] tLive0 (1, 7, 0) (2, 7, 1) = some tLive1 := by rw [stepT_A]; exact did1_live
  have s2 : stepT [pLive] tLive1 (2, 7, 1) (2, 7, 9) = some tLive2 := by rw [stepT_A]; exact did2_live
  have s3 : stepT [pLive] tLive2 (2, 7, 9) (5, 7, 0) = some { tLive2 with st := 7 } := by
    rw [stepT_A]
    show overA tLive2 (2, 7, 9) 0 = _
    exact if_pos ⟨rfl, rfl, rfl, rfl⟩
  unfold mLive
  rw [oneT, born_live]
  dsimp only
  rw [runT, s1]
  dsimp only
  rw [runT, s2]
  dsimp only
  rw [runT, s3]
  dsimp only
  rw [runT]
theorem bad_live : badT [pLive] mLive = 4 := by
  have h : badT [pLive] mLive = mLive.length := by
    rw [all_mem]
    intro x hx
    have hid : x.2.1 = 7 := by
      unfold mLive at hx
      simp at hx
      rcases hx with rfl | rfl | rfl | rfl <;> rfl
    have he : ofR mLive 7 = mLive := by decide
    rw [hid, he, one_live]
    rfl
  rw [h]; rfl
theorem chk_live : chkT [pLive] mLive = (4, 0) := by rw [chkT_ok ⟨errL_ok okL_live, by decide⟩, bad_live]; rfl

section
variable {w : World} {g : Nat} {E : TypeId}
theorem prog2_bk {x0 y0 z0 x1 y1 z1 : Int} (h : Bk w g E #[.int .i64 x0, .int .i64 y0, .int .i64 z0, .int .i64 x1, .int .i64 y1, .int .i64 z1]) (h0 : FitI (x0, y0, z0)) (h1 : FitI (x1, y1, z1)) : Prog w (some ⟨g, 0, none⟩) 2 2 [(x0, y0, z0), (x1, y1, z1)] := by
  refine ⟨rfl, by omega, fun q hq => ?_, fun _ => ⟨g, 0, rfl, h.lt, fun j hj => ?_⟩⟩
  · simp at hq
    rcases hq with rfl | rfl
    · exact h0
    · exact h1
  · match j, hj with
    | 0, _ => exact ⟨h.cell 0, h.cell 1, h.cell 2⟩
    | 1, _ => exact ⟨h.cell 3, h.cell 4, h.cell 5⟩
theorem prog4_bk {x0 y0 z0 x1 y1 z1 x2 y2 z2 x3 y3 z3 : Int} (h : Bk w g E #[.int .i64 x0, .int .i64 y0, .int .i64 z0, .int .i64 x1, .int .i64 y1, .int .i64 z1, .int .i64 x2, .int .i64 y2, .int .i64 z2, .int .i64 x3, .int .i64 y3, .int .i64 z3]) (hf : ∀ q ∈ [(x0, y0, z0), (x1, y1, z1), (x2, y2, z2), (x3, y3, z3)], FitI q) : Prog w (some ⟨g, 0, none⟩) 4 4 [(x0, y0, z0), (x1, y1, z1), (x2, y2, z2), (x3, y3, z3)] := by
  refine ⟨rfl, by omega, hf, fun _ => ⟨g, 0, rfl, h.lt, fun j hj => ?_⟩⟩
  match j, hj with
  | 0, _ => exact ⟨h.cell 0, h.cell 1, h.cell 2⟩
  | 1, _ => exact ⟨h.cell 3, h.cell 4, h.cell 5⟩
  | 2, _ => exact ⟨h.cell 6, h.cell 7, h.cell 8⟩
  | 3, _ => exact ⟨h.cell 9, h.cell 10, h.cell 11⟩
theorem prgs1_bk {A : Option Addr} {n c : Nat} {p : List I3} (h : Bk w g E #[.slice A n c]) (hp : Prog w A n c p) : Prgs w (some ⟨g, 0, none⟩) 1 [p] := by
  refine ⟨rfl, by omega, [(A, n, c)], ⟨rfl, fun j hj => ?_⟩, fun _ => ⟨g, 0, rfl, h.lt, fun j hj => ?_⟩⟩
  · obtain rfl : j = 0 := by simp at hj; omega
    exact hp
  · obtain rfl : j = 0 := by omega
    exact h.cell 0
end

end Go.Proofs.YtfhlligcbpnkkaaDoor

/-
  Layer 18: the chapter's example holds of the program.
-/
namespace Go.Proofs.YtfhlligcbpnkkaaDoor
open Go.RowKit

theorem lies3t (w : World) (x y z : Array Value) (t u v : TypeId) :
    Bk (((w.alloc (.cells x t)).alloc (.cells y u)).alloc (.cells z v)) w.heap.size t x ∧ Bk (((w.alloc (.cells x t)).alloc (.cells y u)).alloc (.cells z v)) (w.heap.size + 1) u y ∧ Bk (((w.alloc (.cells x t)).alloc (.cells y u)).alloc (.cells z v)) (w.heap.size + 1 + 1) v z ∧ Below w.heap.size w (((w.alloc (.cells x t)).alloc (.cells y u)).alloc (.cells z v)) := by
  obtain ⟨a, b, c⟩ := lies2 w x y t u
  refine ⟨a.alloc _, b.alloc _, ?_, c.alloc (by simp; omega) _⟩
  have := Bk.new ((w.alloc (.cells x t)).alloc (.cells y u)) v z
  simpa using this

set_option maxHeartbeats 1000000 in
theorem live_any (w : World) (hF : Fol w) :
    Calls Tryd.prog 9 #[] w (RetB (.bool true) w) := by
  obtain ⟨k1, k2, k3, hb⟩ := lies3t w #[.int .i64 1, .int .i64 1, .int .i64 0, .int .i64 9, .int .i64 0, .int .i64 0] #[.slice (some ⟨w.heap.size, 0, none⟩) 2 2] #[.int .i64 1, .int .i64 7, .int .i64 0, .int .i64 2, .int .i64 7, .int .i64 1, .int .i64 2, .int .i64 7, .int .i64 9, .int .i64 5, .int .i64 7, .int .i64 0] 50 46 41
  have hf : Fol _ := hF.le hb
  have hp := prgs1_bk k2 (prog2_bk k1 (by unfold FitI Fit; decide) (by unfold FitI Fit; decide))
  have hl := prog4_bk k3 (by intro q hq; simp at hq; rcases hq with rfl | rfl | rfl | rfl <;> (unfold FitI Fit; decide))
  have HC := Lib.hid (check_pr (some ⟨w.heap.size + 1, 0, none⟩) (some ⟨w.heap.size + 1 + 1, 0, none⟩) 1 1 4 4 [pLive] mLive _ hf hp hl)
  have HB := Lib.hid hb
  clear hf hp hl k1 k2 k3 hb hF
  go_enter Tryd.func9, Tryd.ntmps9
  go_wp2_with fail
  refine HC.out.mono ?_
  rw [chk_live]
  rintro e U ⟨rfl, bU⟩
  have BB := Lib.hid (below3 HB.out bU)
  clear bU HC HB
  go_wp2_with fail
  go_ret
  exact ⟨rfl, BB.out⟩

end Go.Proofs.YtfhlligcbpnkkaaDoor

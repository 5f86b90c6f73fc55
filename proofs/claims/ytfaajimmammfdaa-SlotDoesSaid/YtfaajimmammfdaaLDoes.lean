/-
  The walk of the law SlotDoes of layer 5: any places, new ones, with one more taken, any id found, and freed, and all ids, are the document's.
-/
import Derived.Test.YtfaajimmammfdaaLive
import Derived.Test.YtfaajimmammfdaaPi
import Derived.Test.YtfaajimmammfdaaPk
import Derived.Test.YtfaajimmammfdaaPv
import Derived.Test.YtfaajimmammfdaaPs
import Derived.Test.YtfaajimmammfdaaCalm
import Derived.OrdersHeld
import Derived.WalkSpells
import Derived.Deep.CutBlock
import Derived.Deep.DeepCutAuto
import Derived.Shelf.Abstract
import Derived.StillTailTactics
namespace Go.Proofs.Ytfaajimmammfdaa
open Go.RowKit

theorem calm_plc {ops : Array Oper} {S : World → Prop} {o : Oper} {a : Act} (hw : Region.wanted o (yielded ops a.tmps) = true) (x : Operand) (ho : o.op = .load 25 x) (g : Nat) (hx : a.eval x = .pointer (some ⟨g, 0, none⟩)) {u v : Value}
    (hS : ∀ w, S w → Bk w g 25 #[u, v]) : Calm Try.prog ops S o (.agg #[u, v]) a :=
  calm_of hw fun w hw' => by
    unfold execOp
    simp only [ho, hx, Instr.loadAt, Instr.sureAddr, Sem.run_bind, Sem.run_pure, Result.andThen_ok, run_loadVar_row w g 25 25 #[u, v] (0, 0) _ (hS w hw') Try.underlying25 rfl (by kernel_rfl)]

theorem rsame_yes (A B A' B' : Option Addr) (n c m d c' d' : Nat) (gs : List Int) (ls : List Bool) (w : World) (hp : Plc w A n B m gs ls) (hq : Plc w A' n B' m gs ls) :
    Calls Try.prog 20 #[.agg #[.slice A n c, .slice B m d], .agg #[.slice A' n c', .slice B' m d']] w (RetB (.bool true) w) := by
  have := rsame_any A B A' B' n c m d n c' m d' gs gs ls ls w hp hq
  rwa [sameS_refl] at this
theorem rsame01_yes (A B : Option Addr) (n c d : Nat) (xs : List Int) (w : World) (hp : Ints w A n xs) (hq : Ints w B n xs) :
    Calls Try.prog 21 #[.slice A n c, .slice B n d] w (RetB (.bool true) w) := by
  have := rsame01_any A B n c n d xs xs w hp hq
  rwa [sameB_refl] at this
theorem new_both (n : Int) : ∃ gs ls er, ∀ w, Calls Try.prog 10 #[.int .i64 n] w (NewPE gs ls er w) ∧ Calls Try.prog 11 #[.int .i64 n] w (NewPE gs ls er w) := by
  by_cases h : n < 1 ∨ 256 < n
  · exact ⟨[], [], 1, fun w => ⟨new_no n w h, rnew_no n w h⟩⟩
  · obtain ⟨m, rfl⟩ : ∃ m : Nat, n = (m : Int) := ⟨n.toNat, by omega⟩
    exact ⟨_, _, 0, fun w => ⟨new_yes m w (by omega) (by omega), rnew_yes m w (by omega) (by omega)⟩⟩
theorem OwnP.plcN {w : World} {base n m c d : Nat} {A B : Option Addr} {gs : List Int} {ls : List Bool} (h : OwnP w base A c B d gs ls) (hn : gs.length = n) (hm : ls.length = m) : Plc w A n B m gs ls := by
  have := h.plc
  rwa [hn, hm] at this
theorem OwnI.intsN {E : TypeId} {w : World} {base n c : Nat} {A : Option Addr} {zs : List Int} (h : OwnI E w base A c zs) (hn : zs.length = n) : Ints w A n zs := hn ▸ h.ints
theorem OwnB.ne_bk {E U : TypeId} {w : World} {base g g' c : Nat} {zs : List Bool} {cs : Array Value} (h : OwnB E w base (some ⟨g, 0, none⟩) c zs) (k : Bk w g' U cs) (hne : E ≠ U) : ¬ (g' = g) := by
  rintro rfl
  rcases (show w.ownsRow base E 1 (.slice (some ⟨g', 0, none⟩) zs.length c) zs.length (zs.map Value.bool) from h).2 with ⟨e, -⟩ | ⟨g2, cap, cur, e, -, hh, -⟩
  · injection e with e _ _; cases e
  · injection e with e _ _
    simp at e
    subst e
    rw [show w.heap[g']? = _ from k] at hh
    simp at hh
    exact hne hh.2.symm

/-- What stays while a cell is read, and turned. -/
def TurnS (g : Nat) (x y : Value) (gB q : Nat) (b : Bool) (U : World) : Prop := U.cell? ⟨g, 0, none⟩ = some x ∧ U.cell? ⟨g, 1, none⟩ = some y ∧ U.cell? ⟨gB, q, none⟩ = some (.bool b)

set_option maxRecDepth 100000 in
set_option maxHeartbeats 4000000 in
theorem ldoes_long (A1 B1 A2 B2 : Option Addr) (n1 c1 m1 d1 n2 c2 m2 d2 : Nat) (n id : Int) (w : World) (h1 : n1 ≤ 9223372036854775807) (k1 : m1 ≤ 9223372036854775807) (h2 : n2 ≤ 9223372036854775807) (k2 : m2 ≤ 9223372036854775807) (h : 400 < n1 ∨ 400 < m1 ∨ 400 < n2 ∨ 400 < m2) :
    Calls Try.prog 3 #[.int .i64 n, .agg #[.slice A1 n1 c1, .slice B1 m1 d1], .agg #[.slice A2 n2 c2, .slice B2 m2 d2], .int .i64 id] w (TrueAns w) := by
  obtain ⟨b5, b6, b0⟩ := lies2 w #[.slice A1 n1 c1, .slice B1 m1 d1] #[.slice A2 n2 c2, .slice B2 m2 d2] 25 25
  have B0 := Lib.hid b0
  have K5 := Lib.hid b5
  have K6 := Lib.hid b6
  clear b0 b5 b6
  by_cases g1 : 400 < n1
  · clear h
    go_enter Try.func3, Try.ntmps3
    go_wp2_with fail
    refine (live_any _).mono ?_
    rintro e w1 ⟨rfl, hb1⟩
    have HB1 := Lib.hid (below3 B0.out hb1)
    have a0 := (K5.out.below hb1 K5.out.lt).c0
    have a1 := (K5.out.below hb1 K5.out.lt).c1
    have a2 := (K6.out.below hb1 K6.out.lt).c0
    have a3 := (K6.out.below hb1 K6.out.lt).c1
    clear hb1
    go_wp2
    go_ret
    exact ⟨rfl, HB1.out⟩
  · by_cases g2 : 400 < m1
    · clear h
      go_enter Try.func3, Try.ntmps3
      go_wp2_with fail
      refine (live_any _).mono ?_
      rintro e w1 ⟨rfl, hb1⟩
      have HB1 := Lib.hid (below3 B0.out hb1)
      have a0 := (K5.out.below hb1 K5.out.lt).c0
      have a1 := (K5.out.below hb1 K5.out.lt).c1
      have a2 := (K6.out.below hb1 K6.out.lt).c0
      have a3 := (K6.out.below hb1 K6.out.lt).c1
      clear hb1
      go_wp2
      go_ret
      exact ⟨rfl, HB1.out⟩
    · by_cases g3 : 400 < n2
      · clear h
        go_enter Try.func3, Try.ntmps3
        go_wp2_with fail
        refine (live_any _).mono ?_
        rintro e w1 ⟨rfl, hb1⟩
        have HB1 := Lib.hid (below3 B0.out hb1)
        have a0 := (K5.out.below hb1 K5.out.lt).c0
        have a1 := (K5.out.below hb1 K5.out.lt).c1
        have a2 := (K6.out.below hb1 K6.out.lt).c0
        have a3 := (K6.out.below hb1 K6.out.lt).c1
        clear hb1
        go_wp2
        go_ret
        exact ⟨rfl, HB1.out⟩
      · have g4 : 400 < m2 := by omega
        clear h
        go_enter Try.func3, Try.ntmps3
        go_wp2_with fail
        refine (live_any _).mono ?_
        rintro e w1 ⟨rfl, hb1⟩
        have HB1 := Lib.hid (below3 B0.out hb1)
        have a0 := (K5.out.below hb1 K5.out.lt).c0
        have a1 := (K5.out.below hb1 K5.out.lt).c1
        have a2 := (K6.out.below hb1 K6.out.lt).c0
        have a3 := (K6.out.below hb1 K6.out.lt).c1
        clear hb1
        go_wp2
        go_ret
        exact ⟨rfl, HB1.out⟩
set_option maxRecDepth 100000 in
set_option maxHeartbeats 8000000 in
theorem ldoes_main (A1 B1 A2 B2 : Option Addr) (n1 c1 m1 d1 n2 c2 m2 d2 : Nat) (gs os : List Int) (ls qs : List Bool) (n id : Int) (w : World) (hp : Plc w A1 n1 B1 m1 gs ls) (hq : Plc w A2 n2 B2 m2 os qs) (h1 : n1 ≤ 400) (k1 : m1 ≤ 400) (h2 : n2 ≤ 400) (k2 : m2 ≤ 400) (hid : Fit id) :
    Calls Try.prog 3 #[.int .i64 n, .agg #[.slice A1 n1 c1, .slice B1 m1 d1], .agg #[.slice A2 n2 c2, .slice B2 m2 d2], .int .i64 id] w (TrueAns w) := by
  obtain ⟨b5, b6, b0⟩ := lies2 w #[.slice A1 n1 c1, .slice B1 m1 d1] #[.slice A2 n2 c2, .slice B2 m2 d2] 25 25
  obtain ⟨gN, lN, eN, hN⟩ := new_both n
  obtain ⟨⟨x, gT, lT, eT⟩, hT⟩ : ∃ a, takeF gs ls = a := ⟨_, rfl⟩
  obtain ⟨⟨gF, lF, eF⟩, hF⟩ : ∃ a, freeF gs ls id = a := ⟨_, rfl⟩
  obtain ⟨fN, hfN⟩ : ∃ a, findN gs ls id = a := ⟨_, rfl⟩
  obtain ⟨fE, hfE⟩ : ∃ a, findE gs ls id = a := ⟨_, rfl⟩
  obtain ⟨l4, hl4⟩ : ∃ a, idsF gs ls = a := ⟨_, rfl⟩
  obtain ⟨E, hE⟩ : ∃ a, errS gs ls = a := ⟨_, rfl⟩
  obtain ⟨z, hz⟩ : ∃ a, sameS gs os ls qs = a := ⟨_, rfl⟩
  obtain ⟨nN, hnN⟩ : ∃ k, gN.length = k := ⟨_, rfl⟩
  have LnN := Lib.hid hnN
  obtain ⟨mN, hmN⟩ : ∃ k, lN.length = k := ⟨_, rfl⟩
  have LmN := Lib.hid hmN
  obtain ⟨nT, hnT⟩ : ∃ k, gT.length = k := ⟨_, rfl⟩
  have LnT := Lib.hid hnT
  obtain ⟨mT, hmT⟩ : ∃ k, lT.length = k := ⟨_, rfl⟩
  have LmT := Lib.hid hmT
  obtain ⟨nF, hnF⟩ : ∃ k, gF.length = k := ⟨_, rfl⟩
  have LnF := Lib.hid hnF
  obtain ⟨mF, hmF⟩ : ∃ k, lF.length = k := ⟨_, rfl⟩
  have LmF := Lib.hid hmF
  obtain ⟨n4, hn4⟩ : ∃ k, l4.length = k := ⟨_, rfl⟩
  have Ln4 := Lib.hid hn4
  have LG := Lib.hid hp.g.1
  have LL := Lib.hid hp.l.1
  have CN := Lib.hid hN
  have HT := Lib.hid hT
  have HF := Lib.hid hF
  have HFN := Lib.hid hfN
  have HFE := Lib.hid hfE
  have HL4 := Lib.hid hl4
  have HE := Lib.hid hE
  have HZ := Lib.hid hz
  have HID := Lib.hid hid
  have P_s := Lib.hid (hp.below b0)
  have P_o := Lib.hid (hq.below b0)
  have K_s := Lib.hid b5
  have K_o := Lib.hid b6
  have BB := Lib.hid b0
  have HK5 := Lib.hid b5.lt
  clear hp hq b5 b6 b0 hN hT hF hfN hfE hl4 hE hz hid hnN hmN hnT hmT hnF hmF hn4
  go_enter Try.func3, Try.ntmps3
  go_wp2_with fail
  refine (live_any _).mono ?_
  rintro e w1 ⟨rfl, hb⟩
  have ha := hb
  replace K_s := Lib.hid (K_s.out.below ha K_s.out.lt)
  replace K_o := Lib.hid (K_o.out.below ha K_o.out.lt)
  replace P_s := Lib.hid (P_s.out.below ha)
  replace P_o := Lib.hid (P_o.out.below ha)
  replace BB := Lib.hid (below3 BB.out ha)
  clear ha hb
  have a_s := K_s.out.c0
  have b_s := K_s.out.c1
  have a_o := K_o.out.c0
  have b_o := K_o.out.c1
  go_wp2_with fail
  refine (rcopy_any A1 B1 n1 c1 m1 d1 gs ls _ P_s.out).mono ?_
  rintro e w2 ⟨Ac, cc, Bc, dc, rfl, ho, hb⟩
  simp only [LG.out, LL.out]
  clear a_s b_s a_o b_o
  have ha := hb.alloc hb.size (.cells #[.slice Ac n1 cc, .slice Bc m1 dc] 25)
  have han := (Below.refl w2.heap.size w2).alloc (Nat.le_refl _) (.cells #[.slice Ac n1 cc, .slice Bc m1 dc] 25)
  replace K_s := Lib.hid (K_s.out.below ha K_s.out.lt)
  replace K_o := Lib.hid (K_o.out.below ha K_o.out.lt)
  replace P_s := Lib.hid (P_s.out.below ha)
  replace P_o := Lib.hid (P_o.out.below ha)
  replace BB := Lib.hid (below3 BB.out ha)
  have O_was := Lib.hid ((ho).below han)
  have K_was := Lib.hid (Bk.new w2 25 #[.slice Ac n1 cc, .slice Bc m1 dc])
  clear ha hb han ho
  go_wp2_with fail
  refine ((CN.out _).1).mono ?_
  rintro e w3 ⟨An, cn, Bn, dn, rfl, ho, hb⟩
  simp only [LnN.out, LmN.out]
  have ha := hb.alloc hb.size (.cells #[.slice An nN cn, .slice Bn mN dn] 25)
  have han := (Below.refl w3.heap.size w3).alloc (Nat.le_refl _) (.cells #[.slice An nN cn, .slice Bn mN dn] 25)
  replace K_s := Lib.hid (K_s.out.below ha K_s.out.lt)
  replace K_o := Lib.hid (K_o.out.below ha K_o.out.lt)
  replace K_was := Lib.hid (K_was.out.below ha K_was.out.lt)
  replace P_s := Lib.hid (P_s.out.below ha)
  replace P_o := Lib.hid (P_o.out.below ha)
  replace O_was := Lib.hid (O_was.out.below ha)
  replace BB := Lib.hid (below3 BB.out ha)
  have O_nw := Lib.hid ((ho).below han)
  have K_nw := Lib.hid (Bk.new w3 25 #[.slice An nN cn, .slice Bn mN dn])
  clear ha hb han ho
  go_wp2_with fail
  refine ((CN.out _).2).mono ?_
  rintro e w4 ⟨Ar, cr, Br, dr, rfl, ho, hb⟩
  simp only [LnN.out, LmN.out]
  have ha := hb.alloc hb.size (.cells #[.slice Ar nN cr, .slice Br mN dr] 25)
  have han := (Below.refl w4.heap.size w4).alloc (Nat.le_refl _) (.cells #[.slice Ar nN cr, .slice Br mN dr] 25)
  replace K_s := Lib.hid (K_s.out.below ha K_s.out.lt)
  replace K_o := Lib.hid (K_o.out.below ha K_o.out.lt)
  replace K_was := Lib.hid (K_was.out.below ha K_was.out.lt)
  replace K_nw := Lib.hid (K_nw.out.below ha K_nw.out.lt)
  replace P_s := Lib.hid (P_s.out.below ha)
  replace P_o := Lib.hid (P_o.out.below ha)
  replace O_was := Lib.hid (O_was.out.below ha)
  replace O_nw := Lib.hid (O_nw.out.below ha)
  replace BB := Lib.hid (below3 BB.out ha)
  have O_nr := Lib.hid ((ho).below han)
  have K_nr := Lib.hid (Bk.new w4 25 #[.slice Ar nN cr, .slice Br mN dr])
  clear ha hb han ho
  have a_s := K_s.out.c0
  have b_s := K_s.out.c1
  have VS := P_s
  have VW := O_was
  have VK5 := K_s
  have VKW := K_was
  have VB := BB
  have BV := Lib.hid (Below.refl (w4.alloc (.cells #[.slice Ar nN cr, .slice Br mN dr] 25)).heap.size (w4.alloc (.cells #[.slice Ar nN cr, .slice Br mN dr] 25)))
  go_wp2_with fail
  refine (take_any A1 B1 n1 c1 m1 d1 gs ls _ P_s.out).mono ?_
  rw [HT.out]
  rintro e w5 ⟨At, ct, Bt, dt, rfl, ho, hb⟩
  simp only [LnT.out, LmT.out]
  clear a_s b_s
  have ha := hb.alloc hb.size (.cells #[.slice At nT ct, .slice Bt mT dt] 25)
  have han := (Below.refl w5.heap.size w5).alloc (Nat.le_refl _) (.cells #[.slice At nT ct, .slice Bt mT dt] 25)
  replace K_s := Lib.hid (K_s.out.below ha K_s.out.lt)
  replace K_o := Lib.hid (K_o.out.below ha K_o.out.lt)
  replace K_was := Lib.hid (K_was.out.below ha K_was.out.lt)
  replace K_nw := Lib.hid (K_nw.out.below ha K_nw.out.lt)
  replace K_nr := Lib.hid (K_nr.out.below ha K_nr.out.lt)
  replace P_s := Lib.hid (P_s.out.below ha)
  replace P_o := Lib.hid (P_o.out.below ha)
  replace O_was := Lib.hid (O_was.out.below ha)
  replace O_nw := Lib.hid (O_nw.out.below ha)
  replace O_nr := Lib.hid (O_nr.out.below ha)
  replace BB := Lib.hid (below3 BB.out ha)
  replace BV := Lib.hid (below3 BV.out ha)
  have O_tk := Lib.hid ((ho).below han)
  have K_tk := Lib.hid (Bk.new w5 25 #[.slice At nT ct, .slice Bt mT dt])
  clear ha hb han ho
  have a_s := K_s.out.c0
  have b_s := K_s.out.c1
  go_wp2_with fail
  refine (rtake_any A1 B1 n1 c1 m1 d1 gs ls _ P_s.out).mono ?_
  rw [HT.out]
  rintro e w6 ⟨Au, cu, Bu, du, rfl, ho, hb⟩
  simp only [LnT.out, LmT.out]
  clear a_s b_s
  have ha := hb.alloc hb.size (.cells #[.slice Au nT cu, .slice Bu mT du] 25)
  have han := (Below.refl w6.heap.size w6).alloc (Nat.le_refl _) (.cells #[.slice Au nT cu, .slice Bu mT du] 25)
  replace K_s := Lib.hid (K_s.out.below ha K_s.out.lt)
  replace K_o := Lib.hid (K_o.out.below ha K_o.out.lt)
  replace K_was := Lib.hid (K_was.out.below ha K_was.out.lt)
  replace K_nw := Lib.hid (K_nw.out.below ha K_nw.out.lt)
  replace K_nr := Lib.hid (K_nr.out.below ha K_nr.out.lt)
  replace K_tk := Lib.hid (K_tk.out.below ha K_tk.out.lt)
  replace P_s := Lib.hid (P_s.out.below ha)
  replace P_o := Lib.hid (P_o.out.below ha)
  replace O_was := Lib.hid (O_was.out.below ha)
  replace O_nw := Lib.hid (O_nw.out.below ha)
  replace O_nr := Lib.hid (O_nr.out.below ha)
  replace O_tk := Lib.hid (O_tk.out.below ha)
  replace BB := Lib.hid (below3 BB.out ha)
  replace BV := Lib.hid (below3 BV.out ha)
  have O_tr := Lib.hid ((ho).below han)
  have K_tr := Lib.hid (Bk.new w6 25 #[.slice Au nT cu, .slice Bu mT du])
  clear ha hb han ho
  have a_s := K_s.out.c0
  have b_s := K_s.out.c1
  go_wp2_with fail
  refine (find_any A1 B1 n1 c1 m1 d1 gs ls id _ P_s.out HID.out).mono ?_
  rw [HFN.out, HFE.out]
  rintro e w7 ⟨rfl, hb⟩
  clear a_s b_s
  have ha := hb
  replace K_s := Lib.hid (K_s.out.below ha K_s.out.lt)
  replace K_o := Lib.hid (K_o.out.below ha K_o.out.lt)
  replace K_was := Lib.hid (K_was.out.below ha K_was.out.lt)
  replace K_nw := Lib.hid (K_nw.out.below ha K_nw.out.lt)
  replace K_nr := Lib.hid (K_nr.out.below ha K_nr.out.lt)
  replace K_tk := Lib.hid (K_tk.out.below ha K_tk.out.lt)
  replace K_tr := Lib.hid (K_tr.out.below ha K_tr.out.lt)
  replace P_s := Lib.hid (P_s.out.below ha)
  replace P_o := Lib.hid (P_o.out.below ha)
  replace O_was := Lib.hid (O_was.out.below ha)
  replace O_nw := Lib.hid (O_nw.out.below ha)
  replace O_nr := Lib.hid (O_nr.out.below ha)
  replace O_tk := Lib.hid (O_tk.out.below ha)
  replace O_tr := Lib.hid (O_tr.out.below ha)
  replace BB := Lib.hid (below3 BB.out ha)
  replace BV := Lib.hid (below3 BV.out ha)
  clear ha hb
  have a_s := K_s.out.c0
  have b_s := K_s.out.c1
  go_wp2_with fail
  refine (rfind_any A1 B1 n1 c1 m1 d1 gs ls id _ P_s.out HID.out).mono ?_
  rw [HFN.out, HFE.out]
  rintro e w8 ⟨rfl, hb⟩
  clear a_s b_s
  have ha := hb
  replace K_s := Lib.hid (K_s.out.below ha K_s.out.lt)
  replace K_o := Lib.hid (K_o.out.below ha K_o.out.lt)
  replace K_was := Lib.hid (K_was.out.below ha K_was.out.lt)
  replace K_nw := Lib.hid (K_nw.out.below ha K_nw.out.lt)
  replace K_nr := Lib.hid (K_nr.out.below ha K_nr.out.lt)
  replace K_tk := Lib.hid (K_tk.out.below ha K_tk.out.lt)
  replace K_tr := Lib.hid (K_tr.out.below ha K_tr.out.lt)
  replace P_s := Lib.hid (P_s.out.below ha)
  replace P_o := Lib.hid (P_o.out.below ha)
  replace O_was := Lib.hid (O_was.out.below ha)
  replace O_nw := Lib.hid (O_nw.out.below ha)
  replace O_nr := Lib.hid (O_nr.out.below ha)
  replace O_tk := Lib.hid (O_tk.out.below ha)
  replace O_tr := Lib.hid (O_tr.out.below ha)
  replace BB := Lib.hid (below3 BB.out ha)
  replace BV := Lib.hid (below3 BV.out ha)
  clear ha hb
  have a_s := K_s.out.c0
  have b_s := K_s.out.c1
  go_wp2_with fail
  refine (free_any A1 B1 n1 c1 m1 d1 gs ls id _ P_s.out HID.out).mono ?_
  rw [HF.out]
  rintro e w9 ⟨Af, cf, Bf, df, rfl, ho, hb⟩
  simp only [LnF.out, LmF.out]
  clear a_s b_s
  have ha := hb.alloc hb.size (.cells #[.slice Af nF cf, .slice Bf mF df] 25)
  have han := (Below.refl w9.heap.size w9).alloc (Nat.le_refl _) (.cells #[.slice Af nF cf, .slice Bf mF df] 25)
  replace K_s := Lib.hid (K_s.out.below ha K_s.out.lt)
  replace K_o := Lib.hid (K_o.out.below ha K_o.out.lt)
  replace K_was := Lib.hid (K_was.out.below ha K_was.out.lt)
  replace K_nw := Lib.hid (K_nw.out.below ha K_nw.out.lt)
  replace K_nr := Lib.hid (K_nr.out.below ha K_nr.out.lt)
  replace K_tk := Lib.hid (K_tk.out.below ha K_tk.out.lt)
  replace K_tr := Lib.hid (K_tr.out.below ha K_tr.out.lt)
  replace P_s := Lib.hid (P_s.out.below ha)
  replace P_o := Lib.hid (P_o.out.below ha)
  replace O_was := Lib.hid (O_was.out.below ha)
  replace O_nw := Lib.hid (O_nw.out.below ha)
  replace O_nr := Lib.hid (O_nr.out.below ha)
  replace O_tk := Lib.hid (O_tk.out.below ha)
  replace O_tr := Lib.hid (O_tr.out.below ha)
  replace BB := Lib.hid (below3 BB.out ha)
  replace BV := Lib.hid (below3 BV.out ha)
  have O_fr := Lib.hid ((ho).below han)
  have K_fr := Lib.hid (Bk.new w9 25 #[.slice Af nF cf, .slice Bf mF df])
  clear ha hb han ho
  have a_s := K_s.out.c0
  have b_s := K_s.out.c1
  go_wp2_with fail
  refine (rfree_any A1 B1 n1 c1 m1 d1 gs ls id _ P_s.out HID.out).mono ?_
  rw [HF.out]
  rintro e w10 ⟨Ag, cg, Bg, dg, rfl, ho, hb⟩
  simp only [LnF.out, LmF.out]
  clear a_s b_s
  have ha := hb.alloc hb.size (.cells #[.slice Ag nF cg, .slice Bg mF dg] 25)
  have han := (Below.refl w10.heap.size w10).alloc (Nat.le_refl _) (.cells #[.slice Ag nF cg, .slice Bg mF dg] 25)
  replace K_s := Lib.hid (K_s.out.below ha K_s.out.lt)
  replace K_o := Lib.hid (K_o.out.below ha K_o.out.lt)
  replace K_was := Lib.hid (K_was.out.below ha K_was.out.lt)
  replace K_nw := Lib.hid (K_nw.out.below ha K_nw.out.lt)
  replace K_nr := Lib.hid (K_nr.out.below ha K_nr.out.lt)
  replace K_tk := Lib.hid (K_tk.out.below ha K_tk.out.lt)
  replace K_tr := Lib.hid (K_tr.out.below ha K_tr.out.lt)
  replace K_fr := Lib.hid (K_fr.out.below ha K_fr.out.lt)
  replace P_s := Lib.hid (P_s.out.below ha)
  replace P_o := Lib.hid (P_o.out.below ha)
  replace O_was := Lib.hid (O_was.out.below ha)
  replace O_nw := Lib.hid (O_nw.out.below ha)
  replace O_nr := Lib.hid (O_nr.out.below ha)
  replace O_tk := Lib.hid (O_tk.out.below ha)
  replace O_tr := Lib.hid (O_tr.out.below ha)
  replace O_fr := Lib.hid (O_fr.out.below ha)
  replace BB := Lib.hid (below3 BB.out ha)
  replace BV := Lib.hid (below3 BV.out ha)
  have O_fg := Lib.hid ((ho).below han)
  have K_fg := Lib.hid (Bk.new w10 25 #[.slice Ag nF cg, .slice Bg mF dg])
  clear ha hb han ho
  have a_s := K_s.out.c0
  have b_s := K_s.out.c1
  go_wp2_with fail
  refine (ids_any A1 B1 n1 c1 m1 d1 gs ls _ P_s.out).mono ?_
  rw [HL4.out, HE.out]
  rintro e w11 ⟨Ai, ci, rfl, ho, hb⟩
  simp only [Ln4.out]
  clear a_s b_s
  have ha := hb
  replace K_s := Lib.hid (K_s.out.below ha K_s.out.lt)
  replace K_o := Lib.hid (K_o.out.below ha K_o.out.lt)
  replace K_was := Lib.hid (K_was.out.below ha K_was.out.lt)
  replace K_nw := Lib.hid (K_nw.out.below ha K_nw.out.lt)
  replace K_nr := Lib.hid (K_nr.out.below ha K_nr.out.lt)
  replace K_tk := Lib.hid (K_tk.out.below ha K_tk.out.lt)
  replace K_tr := Lib.hid (K_tr.out.below ha K_tr.out.lt)
  replace K_fr := Lib.hid (K_fr.out.below ha K_fr.out.lt)
  replace K_fg := Lib.hid (K_fg.out.below ha K_fg.out.lt)
  replace P_s := Lib.hid (P_s.out.below ha)
  replace P_o := Lib.hid (P_o.out.below ha)
  replace O_was := Lib.hid (O_was.out.below ha)
  replace O_nw := Lib.hid (O_nw.out.below ha)
  replace O_nr := Lib.hid (O_nr.out.below ha)
  replace O_tk := Lib.hid (O_tk.out.below ha)
  replace O_tr := Lib.hid (O_tr.out.below ha)
  replace O_fr := Lib.hid (O_fr.out.below ha)
  replace O_fg := Lib.hid (O_fg.out.below ha)
  replace BB := Lib.hid (below3 BB.out ha)
  replace BV := Lib.hid (below3 BV.out ha)
  have O_i := Lib.hid (ho)
  clear ha hb ho
  have a_s := K_s.out.c0
  have b_s := K_s.out.c1
  go_wp2_with fail
  refine (rids_any A1 B1 n1 c1 m1 d1 gs ls _ P_s.out).mono ?_
  rw [HL4.out, HE.out]
  rintro e w12 ⟨Aj, cj, rfl, ho, hb⟩
  simp only [Ln4.out]
  clear a_s b_s
  have ha := hb
  replace K_s := Lib.hid (K_s.out.below ha K_s.out.lt)
  replace K_o := Lib.hid (K_o.out.below ha K_o.out.lt)
  replace K_was := Lib.hid (K_was.out.below ha K_was.out.lt)
  replace K_nw := Lib.hid (K_nw.out.below ha K_nw.out.lt)
  replace K_nr := Lib.hid (K_nr.out.below ha K_nr.out.lt)
  replace K_tk := Lib.hid (K_tk.out.below ha K_tk.out.lt)
  replace K_tr := Lib.hid (K_tr.out.below ha K_tr.out.lt)
  replace K_fr := Lib.hid (K_fr.out.below ha K_fr.out.lt)
  replace K_fg := Lib.hid (K_fg.out.below ha K_fg.out.lt)
  replace P_s := Lib.hid (P_s.out.below ha)
  replace P_o := Lib.hid (P_o.out.below ha)
  replace O_was := Lib.hid (O_was.out.below ha)
  replace O_nw := Lib.hid (O_nw.out.below ha)
  replace O_nr := Lib.hid (O_nr.out.below ha)
  replace O_tk := Lib.hid (O_tk.out.below ha)
  replace O_tr := Lib.hid (O_tr.out.below ha)
  replace O_fr := Lib.hid (O_fr.out.below ha)
  replace O_fg := Lib.hid (O_fg.out.below ha)
  replace O_i := Lib.hid (O_i.out.below ha)
  replace BB := Lib.hid (below3 BB.out ha)
  replace BV := Lib.hid (below3 BV.out ha)
  have O_j := Lib.hid (ho)
  clear ha hb ho
  go_wp2_with fail
  refine calm_region (S := fun U => Below w12.heap.size w12 U) (by kernel_rfl) (Below.refl _ _).drew ?_
  refine calm_to (i := 0) (t := 119) (v := .agg #[.slice An nN cn, .slice Bn mN dn]) rfl rfl (by kernel_rfl) (by kernel_rfl) (by kernel_rfl) (fun _ _ _ h => h) (calm_plc rfl (.tmp 11) rfl _ rfl (fun U hU => K_nw.out.below hU K_nw.out.lt)) ?_
  simp only [List.setIfInBounds_toArray, List.set_cons_zero, List.set_cons_succ]
  refine calm_to (i := 1) (t := 120) (v := .agg #[.slice Ar nN cr, .slice Br mN dr]) rfl rfl (by kernel_rfl) (by kernel_rfl) (by kernel_rfl) (fun _ _ _ h => h) (calm_plc rfl (.tmp 13) rfl _ rfl (fun U hU => K_nr.out.below hU K_nr.out.lt)) ?_
  simp only [List.setIfInBounds_toArray, List.set_cons_zero, List.set_cons_succ]
  refine calm_to (i := 2) (t := 121) (v := .bool true) rfl rfl (by kernel_rfl) (by kernel_rfl) (by kernel_rfl) (fun _ _ _ h => h) (calm_call2 rfl 20 (.tmp 119) (.tmp 120) #[25, 25] rfl (enters_of Try.func20 (by kernel_rfl) rfl) (.agg #[.slice An nN cn, .slice Bn mN dn]) (.agg #[.slice Ar nN cr, .slice Br mN dr]) rfl rfl (fun U hU => (rsame_yes An Bn Ar Br nN cn mN dn cr dr _ _ U ((O_nw.out.plcN LnN.out LmN.out).below hU) ((O_nr.out.plcN LnN.out LmN.out).below hU)).mono fun _ _ hh => ⟨hh.1, hU.trans (hh.2.mono hU.size)⟩)) ?_
  simp only [List.setIfInBounds_toArray, List.set_cons_zero, List.set_cons_succ]
  refine calm_to (i := 3) (t := 122) (v := .bool true) rfl rfl (by kernel_rfl) (by kernel_rfl) (by kernel_rfl) (fun _ _ _ h => h) (calm_move rfl (.tmp 121) (.inl rfl) rfl) ?_
  simp only [List.setIfInBounds_toArray, List.set_cons_zero, List.set_cons_succ]
  refine calm_to (i := 4) (t := 123) (v := .int .i64 eN) rfl rfl (by kernel_rfl) (by kernel_rfl) (by kernel_rfl) (fun _ _ _ h => h) (calm_move rfl (.tmp 12) (.inl rfl) rfl) ?_
  simp only [List.setIfInBounds_toArray, List.set_cons_zero, List.set_cons_succ]
  refine calm_to (i := 5) (t := 124) (v := .int .i64 eN) rfl rfl (by kernel_rfl) (by kernel_rfl) (by kernel_rfl) (fun _ _ _ h => h) (calm_move rfl (.tmp 14) (.inl rfl) rfl) ?_
  simp only [List.setIfInBounds_toArray, List.set_cons_zero, List.set_cons_succ]
  refine calm_to (i := 6) (t := 125) (v := .bool true) rfl rfl (by kernel_rfl) (by kernel_rfl) (by kernel_rfl) (fun _ _ _ h => h) (calm_of rfl (fun U _ => by go_simp)) ?_
  simp only [List.setIfInBounds_toArray, List.set_cons_zero, List.set_cons_succ]
  refine calm_to (i := 7) (t := 126) (v := .bool true) rfl rfl (by kernel_rfl) (by kernel_rfl) (by kernel_rfl) (fun _ _ _ h => h) (calm_pick rfl (.tmp 122) (.tmp 125) (.const (.bool false)) rfl true rfl rfl) ?_
  simp only [List.setIfInBounds_toArray, List.set_cons_zero, List.set_cons_succ]
  refine calm_to (i := 8) (t := 127) (v := .bool true) rfl rfl (by kernel_rfl) (by kernel_rfl) (by kernel_rfl) (fun _ _ _ h => h) (calm_move rfl (.tmp 126) (.inl rfl) rfl) ?_
  simp only [List.setIfInBounds_toArray, List.set_cons_zero, List.set_cons_succ]
  refine calm_to (i := 9) (t := 128) (v := .int .i64 x) rfl rfl (by kernel_rfl) (by kernel_rfl) (by kernel_rfl) (fun _ _ _ h => h) (calm_move rfl (.tmp 15) (.inl rfl) rfl) ?_
  simp only [List.setIfInBounds_toArray, List.set_cons_zero, List.set_cons_succ]
  refine calm_to (i := 10) (t := 129) (v := .int .i64 x) rfl rfl (by kernel_rfl) (by kernel_rfl) (by kernel_rfl) (fun _ _ _ h => h) (calm_move rfl (.tmp 18) (.inl rfl) rfl) ?_
  simp only [List.setIfInBounds_toArray, List.set_cons_zero, List.set_cons_succ]
  refine calm_to (i := 11) (t := 130) (v := .bool true) rfl rfl (by kernel_rfl) (by kernel_rfl) (by kernel_rfl) (fun _ _ _ h => h) (calm_of rfl (fun U _ => by go_simp)) ?_
  simp only [List.setIfInBounds_toArray, List.set_cons_zero, List.set_cons_succ]
  refine calm_to (i := 12) (t := 131) (v := .bool true) rfl rfl (by kernel_rfl) (by kernel_rfl) (by kernel_rfl) (fun _ _ _ h => h) (calm_pick rfl (.tmp 127) (.tmp 130) (.const (.bool false)) rfl true rfl rfl) ?_
  simp only [List.setIfInBounds_toArray, List.set_cons_zero, List.set_cons_succ]
  refine calm_to (i := 13) (t := 132) (v := .bool true) rfl rfl (by kernel_rfl) (by kernel_rfl) (by kernel_rfl) (fun _ _ _ h => h) (calm_move rfl (.tmp 131) (.inl rfl) rfl) ?_
  simp only [List.setIfInBounds_toArray, List.set_cons_zero, List.set_cons_succ]
  refine calm_to (i := 14) (t := 133) (v := .agg #[.slice At nT ct, .slice Bt mT dt]) rfl rfl (by kernel_rfl) (by kernel_rfl) (by kernel_rfl) (fun _ _ _ h => h) (calm_plc rfl (.tmp 16) rfl _ rfl (fun U hU => K_tk.out.below hU K_tk.out.lt)) ?_
  simp only [List.setIfInBounds_toArray, List.set_cons_zero, List.set_cons_succ]
  refine calm_to (i := 15) (t := 134) (v := .agg #[.slice Au nT cu, .slice Bu mT du]) rfl rfl (by kernel_rfl) (by kernel_rfl) (by kernel_rfl) (fun _ _ _ h => h) (calm_plc rfl (.tmp 19) rfl _ rfl (fun U hU => K_tr.out.below hU K_tr.out.lt)) ?_
  simp only [List.setIfInBounds_toArray, List.set_cons_zero, List.set_cons_succ]
  refine calm_to (i := 16) (t := 135) (v := .bool true) rfl rfl (by kernel_rfl) (by kernel_rfl) (by kernel_rfl) (fun _ _ _ h => h) (calm_call2 rfl 20 (.tmp 133) (.tmp 134) #[25, 25] rfl (enters_of Try.func20 (by kernel_rfl) rfl) (.agg #[.slice At nT ct, .slice Bt mT dt]) (.agg #[.slice Au nT cu, .slice Bu mT du]) rfl rfl (fun U hU => (rsame_yes At Bt Au Bu nT ct mT dt cu du _ _ U ((O_tk.out.plcN LnT.out LmT.out).below hU) ((O_tr.out.plcN LnT.out LmT.out).below hU)).mono fun _ _ hh => ⟨hh.1, hU.trans (hh.2.mono hU.size)⟩)) ?_
  simp only [List.setIfInBounds_toArray, List.set_cons_zero, List.set_cons_succ]
  refine calm_to (i := 17) (t := 136) (v := .bool true) rfl rfl (by kernel_rfl) (by kernel_rfl) (by kernel_rfl) (fun _ _ _ h => h) (calm_pick rfl (.tmp 132) (.tmp 135) (.const (.bool false)) rfl true rfl rfl) ?_
  simp only [List.setIfInBounds_toArray, List.set_cons_zero, List.set_cons_succ]
  refine calm_to (i := 18) (t := 137) (v := .bool true) rfl rfl (by kernel_rfl) (by kernel_rfl) (by kernel_rfl) (fun _ _ _ h => h) (calm_move rfl (.tmp 136) (.inl rfl) rfl) ?_
  simp only [List.setIfInBounds_toArray, List.set_cons_zero, List.set_cons_succ]
  refine calm_to (i := 19) (t := 138) (v := .int .i64 eT) rfl rfl (by kernel_rfl) (by kernel_rfl) (by kernel_rfl) (fun _ _ _ h => h) (calm_move rfl (.tmp 17) (.inl rfl) rfl) ?_
  simp only [List.setIfInBounds_toArray, List.set_cons_zero, List.set_cons_succ]
  refine calm_to (i := 20) (t := 139) (v := .int .i64 eT) rfl rfl (by kernel_rfl) (by kernel_rfl) (by kernel_rfl) (fun _ _ _ h => h) (calm_move rfl (.tmp 20) (.inl rfl) rfl) ?_
  simp only [List.setIfInBounds_toArray, List.set_cons_zero, List.set_cons_succ]
  refine calm_to (i := 21) (t := 140) (v := .bool true) rfl rfl (by kernel_rfl) (by kernel_rfl) (by kernel_rfl) (fun _ _ _ h => h) (calm_of rfl (fun U _ => by go_simp)) ?_
  simp only [List.setIfInBounds_toArray, List.set_cons_zero, List.set_cons_succ]
  refine calm_to (i := 22) (t := 141) (v := .bool true) rfl rfl (by kernel_rfl) (by kernel_rfl) (by kernel_rfl) (fun _ _ _ h => h) (calm_pick rfl (.tmp 137) (.tmp 140) (.const (.bool false)) rfl true rfl rfl) ?_
  simp only [List.setIfInBounds_toArray, List.set_cons_zero, List.set_cons_succ]
  refine calm_to (i := 23) (t := 142) (v := .bool true) rfl rfl (by kernel_rfl) (by kernel_rfl) (by kernel_rfl) (fun _ _ _ h => h) (calm_move rfl (.tmp 141) (.inl rfl) rfl) ?_
  simp only [List.setIfInBounds_toArray, List.set_cons_zero, List.set_cons_succ]
  refine calm_to (i := 24) (t := 143) (v := .int .i64 fN) rfl rfl (by kernel_rfl) (by kernel_rfl) (by kernel_rfl) (fun _ _ _ h => h) (calm_move rfl (.tmp 21) (.inl rfl) rfl) ?_
  simp only [List.setIfInBounds_toArray, List.set_cons_zero, List.set_cons_succ]
  refine calm_to (i := 25) (t := 144) (v := .int .i64 fN) rfl rfl (by kernel_rfl) (by kernel_rfl) (by kernel_rfl) (fun _ _ _ h => h) (calm_move rfl (.tmp 23) (.inl rfl) rfl) ?_
  simp only [List.setIfInBounds_toArray, List.set_cons_zero, List.set_cons_succ]
  refine calm_to (i := 26) (t := 145) (v := .bool true) rfl rfl (by kernel_rfl) (by kernel_rfl) (by kernel_rfl) (fun _ _ _ h => h) (calm_of rfl (fun U _ => by go_simp)) ?_
  simp only [List.setIfInBounds_toArray, List.set_cons_zero, List.set_cons_succ]
  refine calm_to (i := 27) (t := 146) (v := .bool true) rfl rfl (by kernel_rfl) (by kernel_rfl) (by kernel_rfl) (fun _ _ _ h => h) (calm_pick rfl (.tmp 142) (.tmp 145) (.const (.bool false)) rfl true rfl rfl) ?_
  simp only [List.setIfInBounds_toArray, List.set_cons_zero, List.set_cons_succ]
  refine calm_to (i := 28) (t := 147) (v := .bool true) rfl rfl (by kernel_rfl) (by kernel_rfl) (by kernel_rfl) (fun _ _ _ h => h) (calm_move rfl (.tmp 146) (.inl rfl) rfl) ?_
  simp only [List.setIfInBounds_toArray, List.set_cons_zero, List.set_cons_succ]
  refine calm_to (i := 29) (t := 148) (v := .int .i64 fE) rfl rfl (by kernel_rfl) (by kernel_rfl) (by kernel_rfl) (fun _ _ _ h => h) (calm_move rfl (.tmp 22) (.inl rfl) rfl) ?_
  simp only [List.setIfInBounds_toArray, List.set_cons_zero, List.set_cons_succ]
  refine calm_to (i := 30) (t := 149) (v := .int .i64 fE) rfl rfl (by kernel_rfl) (by kernel_rfl) (by kernel_rfl) (fun _ _ _ h => h) (calm_move rfl (.tmp 24) (.inl rfl) rfl) ?_
  simp only [List.setIfInBounds_toArray, List.set_cons_zero, List.set_cons_succ]
  refine calm_to (i := 31) (t := 150) (v := .bool true) rfl rfl (by kernel_rfl) (by kernel_rfl) (by kernel_rfl) (fun _ _ _ h => h) (calm_of rfl (fun U _ => by go_simp)) ?_
  simp only [List.setIfInBounds_toArray, List.set_cons_zero, List.set_cons_succ]
  refine calm_to (i := 32) (t := 151) (v := .bool true) rfl rfl (by kernel_rfl) (by kernel_rfl) (by kernel_rfl) (fun _ _ _ h => h) (calm_pick rfl (.tmp 147) (.tmp 150) (.const (.bool false)) rfl true rfl rfl) ?_
  simp only [List.setIfInBounds_toArray, List.set_cons_zero, List.set_cons_succ]
  refine calm_to (i := 33) (t := 152) (v := .bool true) rfl rfl (by kernel_rfl) (by kernel_rfl) (by kernel_rfl) (fun _ _ _ h => h) (calm_move rfl (.tmp 151) (.inl rfl) rfl) ?_
  simp only [List.setIfInBounds_toArray, List.set_cons_zero, List.set_cons_succ]
  refine calm_to (i := 34) (t := 153) (v := .agg #[.slice Af nF cf, .slice Bf mF df]) rfl rfl (by kernel_rfl) (by kernel_rfl) (by kernel_rfl) (fun _ _ _ h => h) (calm_plc rfl (.tmp 25) rfl _ rfl (fun U hU => K_fr.out.below hU K_fr.out.lt)) ?_
  simp only [List.setIfInBounds_toArray, List.set_cons_zero, List.set_cons_succ]
  refine calm_to (i := 35) (t := 154) (v := .agg #[.slice Ag nF cg, .slice Bg mF dg]) rfl rfl (by kernel_rfl) (by kernel_rfl) (by kernel_rfl) (fun _ _ _ h => h) (calm_plc rfl (.tmp 27) rfl _ rfl (fun U hU => K_fg.out.below hU K_fg.out.lt)) ?_
  simp only [List.setIfInBounds_toArray, List.set_cons_zero, List.set_cons_succ]
  refine calm_to (i := 36) (t := 155) (v := .bool true) rfl rfl (by kernel_rfl) (by kernel_rfl) (by kernel_rfl) (fun _ _ _ h => h) (calm_call2 rfl 20 (.tmp 153) (.tmp 154) #[25, 25] rfl (enters_of Try.func20 (by kernel_rfl) rfl) (.agg #[.slice Af nF cf, .slice Bf mF df]) (.agg #[.slice Ag nF cg, .slice Bg mF dg]) rfl rfl (fun U hU => (rsame_yes Af Bf Ag Bg nF cf mF df cg dg _ _ U ((O_fr.out.plcN LnF.out LmF.out).below hU) ((O_fg.out.plcN LnF.out LmF.out).below hU)).mono fun _ _ hh => ⟨hh.1, hU.trans (hh.2.mono hU.size)⟩)) ?_
  simp only [List.setIfInBounds_toArray, List.set_cons_zero, List.set_cons_succ]
  refine calm_to (i := 37) (t := 156) (v := .bool true) rfl rfl (by kernel_rfl) (by kernel_rfl) (by kernel_rfl) (fun _ _ _ h => h) (calm_pick rfl (.tmp 152) (.tmp 155) (.const (.bool false)) rfl true rfl rfl) ?_
  simp only [List.setIfInBounds_toArray, List.set_cons_zero, List.set_cons_succ]
  refine calm_to (i := 38) (t := 157) (v := .bool true) rfl rfl (by kernel_rfl) (by kernel_rfl) (by kernel_rfl) (fun _ _ _ h => h) (calm_move rfl (.tmp 156) (.inl rfl) rfl) ?_
  simp only [List.setIfInBounds_toArray, List.set_cons_zero, List.set_cons_succ]
  refine calm_to (i := 39) (t := 158) (v := .int .i64 eF) rfl rfl (by kernel_rfl) (by kernel_rfl) (by kernel_rfl) (fun _ _ _ h => h) (calm_move rfl (.tmp 26) (.inl rfl) rfl) ?_
  simp only [List.setIfInBounds_toArray, List.set_cons_zero, List.set_cons_succ]
  refine calm_to (i := 40) (t := 159) (v := .int .i64 eF) rfl rfl (by kernel_rfl) (by kernel_rfl) (by kernel_rfl) (fun _ _ _ h => h) (calm_move rfl (.tmp 28) (.inl rfl) rfl) ?_
  simp only [List.setIfInBounds_toArray, List.set_cons_zero, List.set_cons_succ]
  refine calm_to (i := 41) (t := 160) (v := .bool true) rfl rfl (by kernel_rfl) (by kernel_rfl) (by kernel_rfl) (fun _ _ _ h => h) (calm_of rfl (fun U _ => by go_simp)) ?_
  simp only [List.setIfInBounds_toArray, List.set_cons_zero, List.set_cons_succ]
  refine calm_to (i := 42) (t := 161) (v := .bool true) rfl rfl (by kernel_rfl) (by kernel_rfl) (by kernel_rfl) (fun _ _ _ h => h) (calm_pick rfl (.tmp 157) (.tmp 160) (.const (.bool false)) rfl true rfl rfl) ?_
  simp only [List.setIfInBounds_toArray, List.set_cons_zero, List.set_cons_succ]
  refine calm_to (i := 43) (t := 162) (v := .bool true) rfl rfl (by kernel_rfl) (by kernel_rfl) (by kernel_rfl) (fun _ _ _ h => h) (calm_move rfl (.tmp 161) (.inl rfl) rfl) ?_
  simp only [List.setIfInBounds_toArray, List.set_cons_zero, List.set_cons_succ]
  refine calm_to (i := 44) (t := 163) (v := .slice Ai n4 ci) rfl rfl (by kernel_rfl) (by kernel_rfl) (by kernel_rfl) (fun _ _ _ h => h) (calm_move rfl (.tmp 29) (.inl rfl) rfl) ?_
  simp only [List.setIfInBounds_toArray, List.set_cons_zero, List.set_cons_succ]
  refine calm_to (i := 45) (t := 164) (v := .slice Aj n4 cj) rfl rfl (by kernel_rfl) (by kernel_rfl) (by kernel_rfl) (fun _ _ _ h => h) (calm_move rfl (.tmp 31) (.inl rfl) rfl) ?_
  simp only [List.setIfInBounds_toArray, List.set_cons_zero, List.set_cons_succ]
  refine calm_to (i := 46) (t := 165) (v := .bool true) rfl rfl (by kernel_rfl) (by kernel_rfl) (by kernel_rfl) (fun _ _ _ h => h) (calm_call2 rfl 21 (.tmp 163) (.tmp 164) #[22, 22] rfl (enters_of Try.func21 (by kernel_rfl) rfl) (.slice Ai n4 ci) (.slice Aj n4 cj) rfl rfl (fun U hU => (rsame01_yes Ai Aj n4 ci cj l4 U ((O_i.out.intsN Ln4.out).below hU) ((O_j.out.intsN Ln4.out).below hU)).mono fun _ _ hh => ⟨hh.1, hU.trans (hh.2.mono hU.size)⟩)) ?_
  simp only [List.setIfInBounds_toArray, List.set_cons_zero, List.set_cons_succ]
  refine calm_to (i := 47) (t := 166) (v := .bool true) rfl rfl (by kernel_rfl) (by kernel_rfl) (by kernel_rfl) (fun _ _ _ h => h) (calm_pick rfl (.tmp 162) (.tmp 165) (.const (.bool false)) rfl true rfl rfl) ?_
  simp only [List.setIfInBounds_toArray, List.set_cons_zero, List.set_cons_succ]
  refine calm_to (i := 48) (t := 167) (v := .bool true) rfl rfl (by kernel_rfl) (by kernel_rfl) (by kernel_rfl) (fun _ _ _ h => h) (calm_move rfl (.tmp 166) (.inl rfl) rfl) ?_
  simp only [List.setIfInBounds_toArray, List.set_cons_zero, List.set_cons_succ]
  refine calm_to (i := 49) (t := 168) (v := .int .i64 E) rfl rfl (by kernel_rfl) (by kernel_rfl) (by kernel_rfl) (fun _ _ _ h => h) (calm_move rfl (.tmp 30) (.inl rfl) rfl) ?_
  simp only [List.setIfInBounds_toArray, List.set_cons_zero, List.set_cons_succ]
  refine calm_to (i := 50) (t := 169) (v := .int .i64 E) rfl rfl (by kernel_rfl) (by kernel_rfl) (by kernel_rfl) (fun _ _ _ h => h) (calm_move rfl (.tmp 32) (.inl rfl) rfl) ?_
  simp only [List.setIfInBounds_toArray, List.set_cons_zero, List.set_cons_succ]
  refine calm_to (i := 51) (t := 170) (v := .bool true) rfl rfl (by kernel_rfl) (by kernel_rfl) (by kernel_rfl) (fun _ _ _ h => h) (calm_of rfl (fun U _ => by go_simp)) ?_
  simp only [List.setIfInBounds_toArray, List.set_cons_zero, List.set_cons_succ]
  refine calm_to (i := 52) (t := 171) (v := .bool true) rfl rfl (by kernel_rfl) (by kernel_rfl) (by kernel_rfl) (fun _ _ _ h => h) (calm_pick rfl (.tmp 167) (.tmp 170) (.const (.bool false)) rfl true rfl rfl) ?_
  simp only [List.setIfInBounds_toArray, List.set_cons_zero, List.set_cons_succ]
  refine calm_to (i := 53) (t := 172) (v := .bool true) rfl rfl (by kernel_rfl) (by kernel_rfl) (by kernel_rfl) (fun _ _ _ h => h) (calm_move rfl (.tmp 171) (.inl rfl) rfl) ?_
  simp only [List.setIfInBounds_toArray, List.set_cons_zero, List.set_cons_succ]
  refine calm_to (i := 54) (t := 173) (v := .agg #[.slice A1 n1 c1, .slice B1 m1 d1]) rfl rfl (by kernel_rfl) (by kernel_rfl) (by kernel_rfl) (fun _ _ _ h => h) (calm_plc rfl (.tmp 5) rfl _ rfl (fun U hU => K_s.out.below hU K_s.out.lt)) ?_
  simp only [List.setIfInBounds_toArray, List.set_cons_zero, List.set_cons_succ]
  refine calm_to (i := 55) (t := 174) (v := .int .i64 E) rfl rfl (by kernel_rfl) (by kernel_rfl) (by kernel_rfl) (fun _ _ _ h => h) (calm_call1 rfl 22 (.tmp 173) #[25] rfl (enters_of Try.func22 (by kernel_rfl) rfl) (.agg #[.slice A1 n1 c1, .slice B1 m1 d1]) rfl (fun U hU => (HE.out ▸ check_any A1 B1 n1 c1 m1 d1 gs ls U (P_s.out.below hU)).mono fun _ _ hh => ⟨hh.1, hU.trans (hh.2.mono hU.size)⟩)) ?_
  simp only [List.setIfInBounds_toArray, List.set_cons_zero, List.set_cons_succ]
  refine calm_to (i := 56) (t := 175) (v := .agg #[.slice A1 n1 c1, .slice B1 m1 d1]) rfl rfl (by kernel_rfl) (by kernel_rfl) (by kernel_rfl) (fun _ _ _ h => h) (calm_plc rfl (.tmp 5) rfl _ rfl (fun U hU => K_s.out.below hU K_s.out.lt)) ?_
  simp only [List.setIfInBounds_toArray, List.set_cons_zero, List.set_cons_succ]
  refine calm_to (i := 57) (t := 176) (v := .int .i64 E) rfl rfl (by kernel_rfl) (by kernel_rfl) (by kernel_rfl) (fun _ _ _ h => h) (calm_call1 rfl 23 (.tmp 175) #[25] rfl (enters_of Try.func23 (by kernel_rfl) rfl) (.agg #[.slice A1 n1 c1, .slice B1 m1 d1]) rfl (fun U hU => (HE.out ▸ rcheck_any A1 B1 n1 c1 m1 d1 gs ls U (P_s.out.below hU)).mono fun _ _ hh => ⟨hh.1, hU.trans (hh.2.mono hU.size)⟩)) ?_
  simp only [List.setIfInBounds_toArray, List.set_cons_zero, List.set_cons_succ]
  refine calm_to (i := 58) (t := 177) (v := .bool true) rfl rfl (by kernel_rfl) (by kernel_rfl) (by kernel_rfl) (fun _ _ _ h => h) (calm_of rfl (fun U _ => by go_simp)) ?_
  simp only [List.setIfInBounds_toArray, List.set_cons_zero, List.set_cons_succ]
  refine calm_to (i := 59) (t := 178) (v := .bool true) rfl rfl (by kernel_rfl) (by kernel_rfl) (by kernel_rfl) (fun _ _ _ h => h) (calm_pick rfl (.tmp 172) (.tmp 177) (.const (.bool false)) rfl true rfl rfl) ?_
  simp only [List.setIfInBounds_toArray, List.set_cons_zero, List.set_cons_succ]
  refine calm_to (i := 60) (t := 179) (v := .bool true) rfl rfl (by kernel_rfl) (by kernel_rfl) (by kernel_rfl) (fun _ _ _ h => h) (calm_move rfl (.tmp 178) (.inl rfl) rfl) ?_
  simp only [List.setIfInBounds_toArray, List.set_cons_zero, List.set_cons_succ]
  refine calm_to (i := 61) (t := 180) (v := .agg #[.slice A1 n1 c1, .slice B1 m1 d1]) rfl rfl (by kernel_rfl) (by kernel_rfl) (by kernel_rfl) (fun _ _ _ h => h) (calm_plc rfl (.tmp 5) rfl _ rfl (fun U hU => K_s.out.below hU K_s.out.lt)) ?_
  simp only [List.setIfInBounds_toArray, List.set_cons_zero, List.set_cons_succ]
  refine calm_to (i := 62) (t := 181) (v := .agg #[.slice A2 n2 c2, .slice B2 m2 d2]) rfl rfl (by kernel_rfl) (by kernel_rfl) (by kernel_rfl) (fun _ _ _ h => h) (calm_plc rfl (.tmp 6) rfl _ rfl (fun U hU => K_o.out.below hU K_o.out.lt)) ?_
  simp only [List.setIfInBounds_toArray, List.set_cons_zero, List.set_cons_succ]
  refine calm_to (i := 63) (t := 182) (v := .bool z) rfl rfl (by kernel_rfl) (by kernel_rfl) (by kernel_rfl) (fun _ _ _ h => h) (calm_call2 rfl 24 (.tmp 180) (.tmp 181) #[25, 25] rfl (enters_of Try.func24 (by kernel_rfl) rfl) (.agg #[.slice A1 n1 c1, .slice B1 m1 d1]) (.agg #[.slice A2 n2 c2, .slice B2 m2 d2]) rfl rfl (fun U hU => (HZ.out ▸ same_any A1 B1 A2 B2 n1 c1 m1 d1 n2 c2 m2 d2 gs os ls qs U (P_s.out.below hU) (P_o.out.below hU)).mono fun _ _ hh => ⟨hh.1, hU.trans (hh.2.mono hU.size)⟩)) ?_
  simp only [List.setIfInBounds_toArray, List.set_cons_zero, List.set_cons_succ]
  refine calm_to (i := 64) (t := 183) (v := .agg #[.slice A1 n1 c1, .slice B1 m1 d1]) rfl rfl (by kernel_rfl) (by kernel_rfl) (by kernel_rfl) (fun _ _ _ h => h) (calm_plc rfl (.tmp 5) rfl _ rfl (fun U hU => K_s.out.below hU K_s.out.lt)) ?_
  simp only [List.setIfInBounds_toArray, List.set_cons_zero, List.set_cons_succ]
  refine calm_to (i := 65) (t := 184) (v := .agg #[.slice A2 n2 c2, .slice B2 m2 d2]) rfl rfl (by kernel_rfl) (by kernel_rfl) (by kernel_rfl) (fun _ _ _ h => h) (calm_plc rfl (.tmp 6) rfl _ rfl (fun U hU => K_o.out.below hU K_o.out.lt)) ?_
  simp only [List.setIfInBounds_toArray, List.set_cons_zero, List.set_cons_succ]
  refine calm_to (i := 66) (t := 185) (v := .bool z) rfl rfl (by kernel_rfl) (by kernel_rfl) (by kernel_rfl) (fun _ _ _ h => h) (calm_call2 rfl 20 (.tmp 183) (.tmp 184) #[25, 25] rfl (enters_of Try.func20 (by kernel_rfl) rfl) (.agg #[.slice A1 n1 c1, .slice B1 m1 d1]) (.agg #[.slice A2 n2 c2, .slice B2 m2 d2]) rfl rfl (fun U hU => (HZ.out ▸ rsame_any A1 B1 A2 B2 n1 c1 m1 d1 n2 c2 m2 d2 gs os ls qs U (P_s.out.below hU) (P_o.out.below hU)).mono fun _ _ hh => ⟨hh.1, hU.trans (hh.2.mono hU.size)⟩)) ?_
  simp only [List.setIfInBounds_toArray, List.set_cons_zero, List.set_cons_succ]
  refine calm_to (i := 67) (t := 186) (v := .bool true) rfl rfl (by kernel_rfl) (by kernel_rfl) (by kernel_rfl) (fun _ _ _ h => h) (calm_of rfl (fun U _ => by go_simp)) ?_
  simp only [List.setIfInBounds_toArray, List.set_cons_zero, List.set_cons_succ]
  refine calm_to (i := 68) (t := 187) (v := .bool true) rfl rfl (by kernel_rfl) (by kernel_rfl) (by kernel_rfl) (fun _ _ _ h => h) (calm_pick rfl (.tmp 179) (.tmp 186) (.const (.bool false)) rfl true rfl rfl) ?_
  simp only [List.setIfInBounds_toArray, List.set_cons_zero, List.set_cons_succ]
  refine calm_to (i := 69) (t := 33) (v := .bool true) rfl rfl (by kernel_rfl) (by kernel_rfl) (by kernel_rfl) (fun _ _ _ h => h) (calm_move rfl (.tmp 187) (.inr rfl) rfl) ?_
  simp only [List.setIfInBounds_toArray, List.set_cons_zero, List.set_cons_succ]
  refine calm_done (by kernel_rfl) ?_ _
  intro U hU
  have KT := Lib.hid (K_tk.out.below hU K_tk.out.lt)
  have OT := Lib.hid (O_tk.out.l.below hU)
  have BU := Lib.hid (below3 BV.out hU)
  have hmT : mT ≤ 140737488351232 := by have := O_tk.out.s; rw [LmT.out] at this; exact this
  have c0 := KT.out.c0
  have c1 := KT.out.c1
  clear K_s K_o K_was K_nw K_nr K_tk K_tr K_fr K_fg P_s P_o O_was O_nw O_nr O_tk O_tr O_fr O_fg O_i O_j CN hU
  go_wp2
  clear c0 c1
  go_loopw [191] (fun t wr => ∃ q : Nat, q ≤ mT ∧ t = .int .i64 q ∧ Hid (∃ l : List Bool, l.length = mT ∧ OwnB 4 wr (w4.alloc (.cells #[.slice Ar nN cr, .slice Br mN dr] 25)).heap.size Bt dt l ∧ Bk wr w5.heap.size 25 #[.slice At nT ct, .slice Bt mT dt] ∧ Below (w4.alloc (.cells #[.slice Ar nN cr, .slice Br mN dr] 25)).heap.size (w4.alloc (.cells #[.slice Ar nN cr, .slice Br mN dr] 25)) wr)) (fun t _ => mT - (intOf t).toNat)
  case atStart => exact ⟨0, Nat.zero_le _, rfl, Lib.hid ⟨lT, LmT.out, OT.out, KT.out, BU.out⟩⟩
  case round =>
    obtain ⟨q, hq, rfl, HR⟩ := hrel
    obtain ⟨l, hl, ho, hk, hb⟩ := HR.out
    by_cases hlt : q < mT
    · obtain ⟨gB, rfl, hgB, -, -, -⟩ := ho.form (by omega)
      have hne := ho.ne_bk hk (by decide)
      obtain ⟨cB, fB⟩ := ho.at_ (j := q) (by omega)
      obtain ⟨y, hy⟩ : ∃ y, bth l q = y := ⟨_, rfl⟩
      rw [hy] at cB
      have c0 := hk.c0
      have c1 := hk.c1
      have HR2 : Hid (∃ l : List Bool, l.length = mT ∧ OwnB 4 (wr.drew.setCell ⟨gB, q, none⟩ (.bool !y)) (w4.alloc (.cells #[.slice Ar nN cr, .slice Br mN dr] 25)).heap.size (some ⟨gB, 0, none⟩) dt l ∧ Bk (wr.drew.setCell ⟨gB, q, none⟩ (.bool !y)) w5.heap.size 25 #[.slice At nT ct, .slice (some ⟨gB, 0, none⟩) mT dt] ∧ Below (w4.alloc (.cells #[.slice Ar nN cr, .slice Br mN dr] 25)).heap.size (w4.alloc (.cells #[.slice Ar nN cr, .slice Br mN dr] 25)) (wr.drew.setCell ⟨gB, q, none⟩ (.bool !y))) :=
        Lib.hid ⟨l.set q !y, (List.length_set ..).trans hl, (ho.below (Below.refl _ _).drew).set_ q !y, hk.drew.far hne _, hb.drew.setCell hgB _⟩
      have hm63 := ho.form (by omega)
      clear ho hk hb hy HR hm63
      go_wp2
      go_still_tail 10, (by kernel_rfl)
      change wpList _ _ _ _ _ wr.drew
      go_wp2
      go_roundw
      case rel => exact ⟨q + 1, by omega, by go_num, HR2⟩
      case measure => simp [intOf]; omega
    · have VS2 := Lib.hid (VS.out.below hb)
      have VW2 := Lib.hid ((VW.out.plcN LG.out LL.out).below hb)
      have k5 := VK5.out.below hb VK5.out.lt
      have kw := VKW.out.below hb VKW.out.lt
      have BW := Lib.hid (below3 VB.out hb)
      have a0 := k5.c0
      have a1 := k5.c1
      have a2 := kw.c0
      have a3 := kw.c1
      clear ho hk hb HR k5 kw
      go_wp2_with fail
      refine (rsame_yes A1 B1 Ac Bc n1 c1 m1 d1 cc dc gs ls _ VS2.out VW2.out).mono ?_
      rintro e wz ⟨rfl, hbz⟩
      have BZ := Lib.hid (below3 BW.out hbz)
      clear hbz a0 a1 a2 a3
      go_wp2
      go_ret
      exact ⟨rfl, BZ.out⟩

theorem ldoes_any (A1 B1 A2 B2 : Option Addr) (n1 c1 m1 d1 n2 c2 m2 d2 : Nat) (gs os : List Int) (ls qs : List Bool) (n id : Int) (w : World) (h1 : n1 ≤ 9223372036854775807) (k1 : m1 ≤ 9223372036854775807) (h2 : n2 ≤ 9223372036854775807) (k2 : m2 ≤ 9223372036854775807) (hp : n1 ≤ 400 → m1 ≤ 400 → Plc w A1 n1 B1 m1 gs ls) (hq : n2 ≤ 400 → m2 ≤ 400 → Plc w A2 n2 B2 m2 os qs) (hid : Fit id) :
    Calls Try.prog 3 #[.int .i64 n, .agg #[.slice A1 n1 c1, .slice B1 m1 d1], .agg #[.slice A2 n2 c2, .slice B2 m2 d2], .int .i64 id] w (TrueAns w) := by
  by_cases h : 400 < n1 ∨ 400 < m1 ∨ 400 < n2 ∨ 400 < m2
  · exact ldoes_long A1 B1 A2 B2 n1 c1 m1 d1 n2 c2 m2 d2 n id w h1 k1 h2 k2 h
  · exact ldoes_main A1 B1 A2 B2 n1 c1 m1 d1 n2 c2 m2 d2 gs os ls qs n id w (hp (by omega) (by omega)) (hq (by omega) (by omega)) (by omega) (by omega) (by omega) (by omega) hid

end Go.Proofs.Ytfaajimmammfdaa

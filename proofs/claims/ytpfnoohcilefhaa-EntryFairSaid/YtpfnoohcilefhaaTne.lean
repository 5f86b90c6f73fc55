/-
  Layer 14: New, both sides.
-/
import Derived.Test.YtpfnoohcilefhaaTnd
namespace Go.Proofs.Ytpfnoohcilefhaa
open Go.RowKit

section
variable {w : World} {A : Option Addr} {n : Nat} {zs : List Int}
theorem ints_at_tn (h : Ints w A n zs) {k : Nat} (hk : k < n) : ∃ b o, A = some ⟨b, o, none⟩ ∧ b < w.heap.size ∧ w.cell? ⟨b, o + k, none⟩ = some (.int .i64 (nth zs k)) := by
  obtain ⟨b, o, e, hb, hc⟩ := h.2.2.2 (by omega)
  exact ⟨b, o, e, hb, hc k hk⟩
theorem ints_fit_tn (h : Ints w A n zs) {k : Nat} (hk : k < n) : Fit (nth zs k) := by
  have hl : k < zs.length := by rw [h.1]; exact hk
  rw [nth_get hl]
  exact h.2.2.1 _ (List.getElem_mem hl)
end
theorem below_grown0_tn {w w' : World} (h : w.grownBy w' none) : Below w.heap.size w w' := (Below.refl _ _).grown h (Nat.le_refl _) (by simp)
theorem fit_nil : FitTn nilTn := by unfold FitTn Fit; decide
theorem made_tn (m : Nat) : (madeCells (Value.agg #[.int .i64 0, .int .i64 0, .int .i64 0, .int .i64 0, .int .i64 0]).cells (m * 5)).toList = cellsTn (List.replicate m nilTn) := by
  have hz : (Value.agg #[.int .i64 0, .int .i64 0, .int .i64 0, .int .i64 0, .int .i64 0]).cells = #[.int .i64 0, .int .i64 0, .int .i64 0, .int .i64 0, .int .i64 0] := by simp [Value.cells]
  rw [hz]
  apply List.ext_getElem
  · rw [Array.length_toList, size_madeCells, cellsTn_len, List.length_replicate]
  · intro i h1 h2
    rw [Array.length_toList, size_madeCells] at h1
    have hj : i / 5 < (List.replicate m nilTn).length := by rw [List.length_replicate]; omega
    have hd : tth (List.replicate m nilTn) (i / 5) = nilTn := by rw [tth_get hj, List.getElem_replicate]
    obtain ⟨d0, d1, d2, d3, d4⟩ := cellsTn_at (List.replicate m nilTn) hj
    rw [hd] at d0 d1 d2 d3 d4
    have hr : i % 5 = 0 ∨ i % 5 = 1 ∨ i % 5 = 2 ∨ i % 5 = 3 ∨ i % 5 = 4 := by omega
    have hl : (madeCells #[Value.int .i64 0, .int .i64 0, .int .i64 0, .int .i64 0, .int .i64 0] (m * 5)).toList[i] = #[Value.int .i64 0, .int .i64 0, .int .i64 0, .int .i64 0, .int .i64 0][i % 5]! := by simp [madeCells]
    rw [hl]
    have g : (cellsTn (List.replicate m nilTn))[i]? = some (.int .i64 0) := by
      rcases hr with hr | hr | hr | hr | hr
      · rw [show i = i / 5 * 5 by omega]; exact d0
      · rw [show i = i / 5 * 5 + 1 by omega]; exact d1
      · rw [show i = i / 5 * 5 + 2 by omega]; exact d2
      · rw [show i = i / 5 * 5 + 3 by omega]; exact d3
      · rw [show i = i / 5 * 5 + 4 by omega]; exact d4
    rw [List.getElem?_eq_getElem h2] at g
    rw [Option.some.inj g]
    rcases hr with hr | hr | hr | hr | hr <;> rw [hr] <;> rfl
theorem OwnTn.zeros {E : TypeId} {w : World} {base : Nat} {A : Option Addr} {m : Nat} (hm : m ≤ 1000)
    (h : w.ownsRow base E 5 (.slice A m m) m (madeCells (Value.agg #[.int .i64 0, .int .i64 0, .int .i64 0, .int .i64 0, .int .i64 0]).cells (m * 5)).toList) : OwnTn E w base A m (List.replicate m nilTn) := by
  rw [made_tn] at h
  refine ⟨by rw [List.length_replicate]; omega, fun x hx => by rw [List.eq_of_mem_replicate hx]; exact fit_nil, ?_⟩
  rw [List.length_replicate]
  exact h
/-- The first k of them are laid, the others are of nothing yet. -/
def partTn (w q : List Int) (k : Nat) : List Tn := (List.range w.length).map (fun j => if j < k then ⟨nth w j, nth q j, 0, 0, 0⟩ else nilTn)
theorem partTn_len (w q : List Int) (k : Nat) : (partTn w q k).length = w.length := by simp [partTn]
theorem partTn_zero (w q : List Int) : partTn w q 0 = List.replicate w.length nilTn := by
  apply List.ext_getElem
  · rw [partTn_len, List.length_replicate]
  · intro i h1 h2; simp [partTn]
theorem partTn_all (w q : List Int) : partTn w q w.length = makeLn w q := by
  apply List.ext_getElem
  · rw [partTn_len, makeLn_len]
  · intro i h1 h2
    rw [partTn_len] at h1
    simp [partTn, makeLn, h1]
theorem partTn_step {w q : List Int} {k : Nat} (_ : k < w.length) : (partTn w q k).set k ⟨nth w k, nth q k, 0, 0, 0⟩ = partTn w q (k + 1) := by
  apply List.ext_getElem
  · rw [List.length_set, partTn_len, partTn_len]
  · intro i h1 h2
    rw [List.getElem_set]
    by_cases h : k = i
    · subst h; simp [partTn]
    · rw [if_neg h]
      have : i < k ↔ i < k + 1 := by omega
      simp [partTn, this]
theorem newLn_no {w q : List Int} (h : ¬ (w.length = q.length ∧ okLn (makeLn w q))) : newLn w q = (1, []) := if_neg h
theorem newLn_ok {w q : List Int} (h : w.length = q.length) (k : okLn (makeLn w q)) : newLn w q = (0, makeLn w q) := if_pos ⟨h, k⟩
theorem tn_take_succ {l : List Tn} {k : Nat} (h : k < l.length) : l.take (k + 1) = l.take k ++ [tth l k] := by
  rw [List.take_add_one, List.getElem?_eq_getElem h, tth_get h]; rfl
theorem tns1 (w : World) (E : TypeId) {a b : Int} (fa : Fit a) (fb : Fit b) : Tns (w.alloc (.cells #[.int .i64 a, .int .i64 b, .int .i64 0, .int .i64 0, .int .i64 0] E)) (some ⟨w.heap.size, 0, none⟩) 1 1 [⟨a, b, 0, 0, 0⟩] := by
  have k := Bk.new w E #[.int .i64 a, .int .i64 b, .int .i64 0, .int .i64 0, .int .i64 0]
  have f0 : Fit 0 := by unfold Fit; decide
  refine ⟨rfl, by omega, fun x hx => ?_, fun _ => ⟨w.heap.size, 0, rfl, k.lt, fun j hj => ?_⟩⟩
  · rw [List.mem_singleton.1 hx]; exact ⟨fa, fb, f0, f0, f0⟩
  · obtain rfl : j = 0 := by omega
    exact k.c5
theorem below_appTn {B : Nat} {w w' : World} {A : Option Addr} {n c : Nat} {W : World} {t : TypeId} {xs : List Tn} (hb : Below B W w) (ho : OwnTn t w B A c xs) (hg : w.grownBy w' (Value.slice A n c).ownBlock) (hs : B ≤ w.heap.size) : Below B W w' :=
  hb.grown hg hs (by intro k hk; exact ho.block k hk)

set_option maxRecDepth 100000 in
set_option maxHeartbeats 8000000 in
theorem pnew_tn (A A' : Option Addr) (n c n' c' : Nat) (xs ys : List Int) (w : World) (hx : Ints w A n xs) (hy : Ints w A' n' ys) :
    Calls Try.prog 45 #[.slice A n c, .slice A' n' c'] w (ListTn (newLn xs ys) w) := by
  have HX := Lib.hid hx
  have HY := Lib.hid hy
  have LX := Lib.hid hx.1
  have LY := Lib.hid hy.1
  have hnm := hx.2.1
  clear hx hy
  obtain ⟨R, hR⟩ : ∃ R, newLn xs ys = R := ⟨_, rfl⟩
  rw [hR]
  have HR := Lib.hid hR
  clear hR
  by_cases hn : n = n'
  · subst hn
    have hn' : ((n : Int) != (n : Int)) = false := by simp
    by_cases h0 : 1 ≤ (n : Int) ∧ (n : Int) ≤ 16
    · have F0 := Lib.hid (decide_eq_true h0)
      have hn16 : n ≤ 16 := by omega
      have H0 := Lib.hid h0
      clear h0
      obtain ⟨i0, hi0, hz0, hz1, hz2⟩ := info_parts infoTn
      have HI := Lib.hid hi0
      have HZ0 := Lib.hid hz0
      have HZ1 := Lib.hid hz1
      have HZ2 := Lib.hid hz2
      clear hi0 hz0 hz1 hz2
      go_enter Try.func45, Try.ntmps45
      go_wp2_with fail
      refine (soMany_any _ _).mono ?_
      rw [F0.out]
      rintro e U1 ⟨rfl, b1⟩
      have B1 := Lib.hid b1
      clear b1
      go_upto_region 4 with (at_make; refine wpList_make_full _ rfl _ _ 50 rfl U1.heap.size 76 i0 _ 5 Try.underlying50 HI.out HZ0.out HZ1.out .i64 .i64 _ _ n rfl rfl rfl rfl (by rw [HZ2.out]; omega) (by unfold maxLen; omega) (Nat.le_refl _) ?_; intro w3 hown hgrow; have HO := Lib.hid hown; have HG := Lib.hid (below3 B1.out (below_grown0_tn hgrow)); clear hown hgrow)
      have O0 := Lib.hid (OwnTn.zeros (by omega) HO.out)
      have hg0 := B1.out.size
      obtain ⟨g, hg⟩ : ∃ g, U1.heap.size = g := ⟨_, rfl⟩
      rw [hg] at O0 hg0
      try rw [hg]
      have HGB := Lib.hid hg0
      have OZ : Hid (RowTn 76 w3 g g n (partTn xs ys 0)) := Lib.hid (by rw [partTn_zero, LX.out]; exact O0.out)
      clear HO O0 HI HZ0 HZ1 HZ2 B1 hg0 hg
      go_wp2
      go_loopw [25] (fun t wr => ∃ k : Nat, k ≤ n ∧ t = .int .i64 k ∧ Hid (RowTn 76 wr g g n (partTn xs ys k)) ∧ Hid (Below w.heap.size w wr)) (fun t _ => n - (intOf t).toNat)
      case atStart => exact ⟨0, Nat.zero_le _, rfl, OZ, HG⟩
      case round =>
        clear OZ HG
        rename World => wr
        obtain ⟨k, hk, rfl, OW, BB⟩ := hrel
        by_cases hkn : k < n
        · have hkx : k < xs.length := by rw [LX.out]; exact hkn
          obtain ⟨bL, oL, rfl, hbL, c0⟩ := ints_at_tn (HX.out.below BB.out) hkn
          obtain ⟨bR, oR, rfl, hbR, d0⟩ := ints_at_tn (HY.out.below BB.out) hkn
          have fx := ints_fit_tn HX.out hkn
          have fy := ints_fit_tn HY.out hkn
          have HST := Lib.hid (partTn_step (w := xs) (q := ys) hkx)
          generalize nth xs k = x at c0 fx HST
          generalize nth ys k = y at d0 fy HST
          obtain ⟨⟨p0, p1, p2, p3, p4⟩, f0, f1, f2, f3, f4⟩ := OW.out.at5 (show k < (partTn xs ys k).length by rw [partTn_len]; exact hkx)
          have lg := OW.out.lt.2
          have hnn := OW.out.cap.2
          have O2 := OW.out.put k (x := ⟨x, y, 0, 0, 0⟩) ⟨fx, fy, fit_nil.1, fit_nil.1, fit_nil.1⟩
          rw [HST.out] at O2
          have O2 := Lib.hid O2
          have B2 := Lib.hid (below_put5 (g := g) BB.out HGB.out k ⟨x, y, 0, 0, 0⟩)
          unfold put5 at O2 B2
          dsimp only at O2 B2
          clear fx fy HST hkx OW BB
          go_upto_region 7 with fail
          go_region
          go_wp2
          go_roundw
          case rel => exact ⟨k + 1, by omega, by go_num, Lib.hid (O2.out.below (Below.refl _ _).drew), Lib.hid B2.out.drew⟩
          case measure => simp [intOf]; omega
        · obtain rfl : n = k := by omega
          have OE : Hid (RowTn 76 wr g g n (makeLn xs ys)) := Lib.hid (by have := OW.out; rw [← LX.out, partTn_all, LX.out] at this; exact this)
          have HLL : Hid ((makeLn xs ys).length = n) := Lib.hid (by rw [makeLn_len]; exact LX.out)
          have HT := Lib.hid OE.out.tns
          rw [HLL.out] at HT
          have hnn := HT.out.2.1
          clear OW
          by_cases hok : okLn (makeLn xs ys)
          · have HC := Lib.hid (chkLn_yes hok)
            have HRE := Lib.hid (HR.out.symm.trans (newLn_ok (by rw [LX.out, LY.out]) hok))
            clear hok
            generalize makeLn xs ys = p at OE HLL HT HC HRE
            go_wp2_with fail
            refine (pchk_any _ n n p _ HT.out).mono ?_
            rw [HC.out]
            rintro e U2 ⟨rfl, b2⟩
            have O3 := Lib.hid ((OE.out.below b2).base HGB.out)
            have B3 := Lib.hid (below3 BB.out b2)
            clear b2 OE HT
            go_wp2
            exact bodyPost_ret (results_tmp2 rfl _ _ _) rfl (by rw [HRE.out]; exact ⟨some ⟨g, 0, none⟩, n, by rw [show (0, p).2.length = n from HLL.out]; rfl, O3.out, B3.out⟩)
          · have HC := Lib.hid (chkLn_no hok)
            have HRE := Lib.hid (HR.out.symm.trans (newLn_no (fun q => hok q.2)))
            clear hok
            generalize makeLn xs ys = p at OE HLL HT HC HRE
            go_wp2_with fail
            refine (pchk_any _ n n p _ HT.out).mono ?_
            rw [HC.out]
            rintro e U2 ⟨rfl, b2⟩
            have O3 := Lib.hid ((OE.out.below b2).base HGB.out)
            have B3 := Lib.hid (below3 BB.out b2)
            clear b2 OE HT
            go_wp2
            exact bodyPost_ret (results_tmp2 rfl _ _ _) rfl (by rw [HRE.out]; exact listTn_no 1 B3.out)
    · have HRE := Lib.hid (HR.out.symm.trans (newLn_no (fun q => h0 (by have := q.2.1; rw [makeLn_len, LX.out] at this; omega))))
      have F0 := Lib.hid (decide_eq_false h0)
      clear h0
      go_enter Try.func45, Try.ntmps45
      go_wp2_with fail
      refine (soMany_any _ _).mono ?_
      rw [F0.out]
      rintro e U1 ⟨rfl, b1⟩
      have B1 := Lib.hid b1
      clear b1
      go_wp2
      exact bodyPost_ret (results_tmp2 rfl _ _ _) rfl (by rw [HRE.out]; exact listTn_no 1 B1.out)
  · have HRE := Lib.hid (HR.out.symm.trans (newLn_no (fun q => hn (by rw [← LX.out, ← LY.out]; exact q.1))))
    have hne : ((n : Int) != (n' : Int)) = true := by simp; omega
    clear hn
    go_enter Try.func45, Try.ntmps45
    go_wp2
    exact bodyPost_ret (results_tmp2 rfl _ _ _) rfl (by rw [HRE.out]; exact listTn_no 1 (Below.refl _ _))

set_option maxRecDepth 100000 in
set_option maxHeartbeats 8000000 in
theorem rnew_tn (A A' : Option Addr) (n c n' c' : Nat) (xs ys : List Int) (w : World) (hx : Ints w A n xs) (hy : Ints w A' n' ys) (hn1 : n ≤ 1000) :
    Calls Try.prog 30 #[.slice A n c, .slice A' n' c'] w (ListTn (newLn xs ys) w) := by
  have HX := Lib.hid hx
  have HY := Lib.hid hy
  have LX := Lib.hid hx.1
  have LY := Lib.hid hy.1
  have hnm := hx.2.1
  clear hx hy
  obtain ⟨R, hR⟩ : ∃ R, newLn xs ys = R := ⟨_, rfl⟩
  rw [hR]
  have HR := Lib.hid hR
  clear hR
  by_cases hn : n = n'
  · subst hn
    have hn' : ((n : Int) != (n : Int)) = false := by simp
    go_enter Try.func30, Try.ntmps30
    go_wp2
    go_loopw [6, 16] (fun t6 t wr => ∃ (k : Nat) (Ao : Option Addr) (co : Nat), k ≤ n ∧ t = .int .i64 k ∧ t6 = .slice Ao k co ∧ Hid (OwnTn 76 wr w.heap.size Ao co ((makeLn xs ys).take k)) ∧ Hid (Below w.heap.size w wr)) (fun _ t _ => n - (intOf t).toNat)
    case atStart => exact ⟨0, none, 0, Nat.zero_le _, rfl, rfl, Lib.hid (OwnTn.nil_ _ _ _), Lib.hid (Below.refl _ _)⟩
    case round =>
      rename World => wr
      obtain ⟨k, Ao, co, hk, rfl, rfl, OW, BB⟩ := hrel
      by_cases hkn : k < n
      · have hkx : k < xs.length := by rw [LX.out]; exact hkn
        obtain ⟨bL, oL, rfl, hbL, c0⟩ := ints_at_tn (HX.out.below BB.out) hkn
        obtain ⟨bR, oR, rfl, hbR, d0⟩ := ints_at_tn (HY.out.below BB.out) hkn
        have fx := ints_fit_tn HX.out hkn
        have fy := ints_fit_tn HY.out hkn
        have HST := tn_take_succ (l := makeLn xs ys) (k := k) (by rw [makeLn_len]; exact hkx)
        rw [makeLn_at hkx] at HST
        have HST := Lib.hid HST
        have HLL : Hid (k = ((makeLn xs ys).take k).length) := Lib.hid (by rw [List.length_take, makeLn_len]; omega)
        generalize nth xs k = x at c0 fx HST
        generalize nth ys k = y at d0 fy HST
        have ba := (Below.refl wr.heap.size wr).alloc (Nat.le_refl _) (.cells #[.int .i64 x, .int .i64 y, .int .i64 0, .int .i64 0, .int .i64 0] 76)
        have T1 := Lib.hid (tns1 wr 76 fx fy)
        have O1 := Lib.hid (OW.out.below ba)
        have B1 := Lib.hid (below3 BB.out ba)
        have HS1 := Lib.hid B1.out.size
        generalize (makeLn xs ys).take k = p at O1 HLL HST
        obtain ⟨p1, hp1⟩ : ∃ p1, (makeLn xs ys).take (k + 1) = p1 := ⟨_, rfl⟩
        rw [hp1] at HST
        have HP1 := Lib.hid hp1
        clear hp1 fx fy hkx OW BB ba
        go_wp2_with (at_builtin; refine wpList_append_tns _ rfl _ _ 50 rfl 76 _ rfl Try.underlying50 infoTn w.heap.size Ao co p k HLL.out rfl O1.out (some ⟨wr.heap.size, 0, none⟩) 1 1 [⟨x, y, 0, 0, 0⟩] rfl T1.out (by have := HLL.out; omega) HS1.out ?_; intro A2 c2 w4 ho hgr; have O5 := Lib.hid ho; have B5 := Lib.hid (below_appTn B1.out O1.out hgr HS1.out); clear ho hgr T1 O1 B1)
        have HN1 : Hid ((p ++ [(⟨x, y, 0, 0, 0⟩ : Tn)]).length = k + 1) := Lib.hid (by have := HLL.out; simp; omega)
        go_roundw
        case rel => exact ⟨k + 1, A2, c2, by omega, by go_num, by first | rfl | rw [HN1.out] | (simp; exact HLL.out.symm), Lib.hid (by rw [HP1.out, HST.out]; exact O5.out), B5⟩
        case measure => simp [intOf]; omega
      · obtain rfl : n = k := by omega
        have HLL : Hid ((makeLn xs ys).length = n) := Lib.hid (by rw [makeLn_len]; exact LX.out)
        have OE : Hid (OwnTn 76 wr w.heap.size Ao co (makeLn xs ys)) := Lib.hid (by have := OW.out; rw [← HLL.out, List.take_length] at this; exact this)
        have HT := Lib.hid OE.out.tns
        rw [HLL.out] at HT
        have hnn := HT.out.2.1
        clear OW
        by_cases hok : okLn (makeLn xs ys)
        · have HC := Lib.hid (chkLn_yes hok)
          have HRE := Lib.hid (HR.out.symm.trans (newLn_ok (by rw [LX.out, LY.out]) hok))
          clear hok
          generalize makeLn xs ys = p at OE HLL HT HC HRE
          go_wp2_with fail
          refine (rchk_tn _ n co p _ HT.out).mono ?_
          rw [HC.out]
          rintro e U2 ⟨rfl, b2⟩
          have O3 := Lib.hid (OE.out.below b2)
          have B3 := Lib.hid (below3 BB.out b2)
          clear b2 OE HT
          go_wp2
          exact bodyPost_ret (results_tmp2 rfl _ _ _) rfl (by rw [HRE.out]; exact ⟨Ao, co, by rw [show (0, p).2.length = n from HLL.out]; rfl, O3.out, B3.out⟩)
        · have HC := Lib.hid (chkLn_no hok)
          have HRE := Lib.hid (HR.out.symm.trans (newLn_no (fun q => hok q.2)))
          clear hok
          generalize makeLn xs ys = p at OE HLL HT HC HRE
          go_wp2_with fail
          refine (rchk_tn _ n co p _ HT.out).mono ?_
          rw [HC.out]
          rintro e U2 ⟨rfl, b2⟩
          have O3 := Lib.hid (OE.out.below b2)
          have B3 := Lib.hid (below3 BB.out b2)
          clear b2 OE HT
          go_wp2
          exact bodyPost_ret (results_tmp2 rfl _ _ _) rfl (by rw [HRE.out]; exact listTn_no 1 B3.out)
  · have HRE := Lib.hid (HR.out.symm.trans (newLn_no (fun q => hn (by rw [← LX.out, ← LY.out]; exact q.1))))
    have hne : ((n : Int) != (n' : Int)) = true := by simp; omega
    clear hn
    go_enter Try.func30, Try.ntmps30
    go_wp2
    exact bodyPost_ret (results_tmp2 rfl _ _ _) rfl (by rw [HRE.out]; exact listTn_no 1 (Below.refl _ _))

end Go.Proofs.Ytpfnoohcilefhaa

/-
  The document's layer 8: Cancel, Add, Reset, Least.
-/
import Derived.Test.YtjamoafihmcmeaaTf
import Derived.Test.YtjamoafihmcmeaaHr
namespace Go.Proofs.Ytjamoafihmcmeaa
open Go.RowKit

theorem ListR.none_ {r : Int × List Tm} {w : World} {e : Ending} {w' : World} {y : Int} (hr : r = (y, [])) (he : e = .returned (.tuple #[.slice none 0 0, .int .i64 y])) (hb : Below w.heap.size w w') : ListR r w e w' := by
  subst hr
  exact ⟨none, 0, he, OwnT.nil_ _ _ _, hb⟩
def lessId (l : List Tm) (id : Int) : List Tm := l.filter (fun t => t.2 != id)
noncomputable def cancelR (h : List Tm) (id : Int) : Int × List Tm := if heapOk h then (if hasId h id then (0, lessId (orderF h) id) else (5, [])) else (1, [])
noncomputable def addR (h : List Tm) (t : Tm) : Int × List Tm := if heapOk h ∧ mayT t then (if hasId h t.2 then (6, []) else if h.length = 256 then (7, []) else (0, withF (orderF h) t)) else (1, [])
noncomputable def resetR (h : List Tm) (id at_ : Int) : Int × List Tm := if heapOk h ∧ 0 ≤ at_ ∧ at_ ≤ 1125899906842624 then (if hasId h id then (0, withF (lessId (orderF h) id) (at_, id)) else (5, [])) else (1, [])
/-- A row of its own that grows. -/
structure CaI (U wr : World) (A : Option Addr) (c : Nat) (xs : List Tm) : Prop where
  o : OwnT 24 wr U.heap.size A c xs
  bl : Below U.heap.size U wr
theorem CaI.below {U wr w' : World} {A : Option Addr} {c : Nat} {xs : List Tm} (h : CaI U wr A c xs) (hb : Below wr.heap.size wr w') : CaI U w' A c xs := ⟨h.o.below hb, below3 h.bl hb⟩
theorem CaI.app {U wr w' : World} {A A' : Option Addr} {c c' : Nat} {xs ys : List Tm} (h : CaI U wr A c xs) (ho : OwnT 24 w' U.heap.size A' c' ys) (hg : wr.grownBy w' (Value.slice A xs.length c).ownBlock) : CaI U w' A' c' ys :=
  ⟨ho, h.bl.grown hg h.bl.size (fun j hj => h.o.block j hj)⟩
theorem OwnT.few {E : TypeId} {w : World} {b : Nat} {A : Option Addr} {c : Nat} {l : List Tm} (h : OwnT E w b A c l) {t : Tm} (ht : t ∈ l) : FitI t := h.2.1 t ht

set_option maxHeartbeats 2000000 in
theorem cancel_any (A : Option Addr) (n c : Nat) (l : List Tm) (id : Int) (w : World) (hx : Tms w A n c l) (hn : n ≤ 1000) :
    Calls Try.prog 14 #[.slice A n c, .int .i64 id] w (ListR (cancelR l id) w) := by
  have HX := Lib.hid hx
  have LX := Lib.hid hx.1
  clear hx
  unfold cancelR
  by_cases hok : heapOk l
  · rw [if_pos hok]
    by_cases hid : hasId l id
    · rw [if_pos hid]
      go_enter Try.func14, Try.ntmps14
      go_wp2_with fail
      refine (rcheck_any A n c l _ HX.out).mono ?_
      rw [if_pos hok]
      rintro e w1 ⟨rfl, b1⟩
      have B1 := Lib.hid b1
      clear b1
      go_wp2_with fail
      refine (at8_any A n c l id _ (HX.out.below B1.out)).mono ?_
      rintro e w2 ⟨r, rfl, hr, b2⟩
      have B2 := Lib.hid (below3 B1.out b2)
      have hr2 : 0 ≤ r := hr.2 hid
      clear b2 hr
      go_wp2_with fail
      refine (order_any A n c l _ (HX.out.below B2.out) hn).mono ?_
      rintro e w3 ⟨A3, c3, rfl, o3, b3⟩
      have O3 := Lib.hid o3
      have B3 := Lib.hid (below3 B2.out b3)
      clear o3 b3
      have hln : (orderF l).length = n := by rw [orderF_len]; exact LX.out
      obtain ⟨L, hL⟩ : ∃ L, orderF l = L := ⟨_, rfl⟩
      rw [hL] at O3 hln
      have HL := Lib.hid hL
      have T3 := Lib.hid O3.out.tms
      have LL := Lib.hid hln
      rw [hL, hln]
      rw [hln] at T3
      clear hL hln
      go_wp2_with fail
      go_loopw [6, 19] (fun u6 t wr => ∃ k : Nat, k ≤ n ∧ t = .int .i64 k ∧ ∃ Ao co ys, ys = (L.take k).filter (fun t => t.2 != id) ∧ u6 = .slice Ao ys.length co ∧ Hid (CaI w3 wr Ao co ys)) (fun _ t _ => n - (intOf t).toNat)
      case atStart => exact ⟨0, Nat.zero_le _, rfl, none, 0, [], rfl, rfl, Lib.hid ⟨OwnT.nil_ _ _ _, Below.refl _ _⟩⟩
      case round =>
        rename World => wr
        obtain ⟨k, hk, rfl, Ao, co, ys, hys, rfl, WI⟩ := hrel
        by_cases hkn : k < n
        · obtain ⟨bL, oL, rfl, hbL, c0, c1⟩ := (T3.out.below WI.out.bl).at_ hkn
          obtain ⟨fa, fb⟩ := T3.out.fit hkn
          have hkl : k < L.length := by rw [LL.out]; exact hkn
          have hyl : ys.length ≤ k := by rw [hys]; exact filter_few _ _ _
          obtain ⟨z1, hz1⟩ : ∃ z, jO L k = z := ⟨_, rfl⟩
          obtain ⟨z2, hz2⟩ : ∃ z, jA L k = z := ⟨_, rfl⟩
          rw [hz1] at c0 fa
          rw [hz2] at c1 fb
          have hz : ith L k = (z1, z2) := by rw [← hz1, ← hz2]; rfl
          have HZ := Lib.hid hz
          have FA := Lib.hid fa
          have FB := Lib.hid fb
          have HYS := Lib.hid hys
          have ka := Bk.new wr 24 #[.int .i64 z1, .int .i64 z2]
          have W2 := WI.out.below ((Below.refl wr.heap.size wr).alloc (Nat.le_refl _) (.cells #[.int .i64 z1, .int .i64 z2] 24))
          obtain ⟨g, hg⟩ : ∃ g, wr.heap.size = g := ⟨_, rfl⟩
          obtain ⟨V, hV⟩ : ∃ V, wr.alloc (.cells #[.int .i64 z1, .int .i64 z2] 24) = V := ⟨_, rfl⟩
          rw [hV] at ka W2
          rw [hg] at ka
          have HV := Lib.hid hV
          have HG := Lib.hid hg
          have KA := Lib.hid ka
          have W2 := Lib.hid W2
          clear hV hg ka hz1 hz2 fa fb hz hys
          go_upto_region 9 with fail
          rw [HV.out]
          try rw [HG.out]
          clear HV HG c0 c1 WI hbL
          have a0 : _ = some (Value.int .i64 z1) := KA.out.cell 0
          have a1 : _ = some (Value.int .i64 z2) := KA.out.cell 1
          have la := KA.out.lt
          by_cases he : z2 = id
          · have heb : (z2 != id) = false := by simpa using he
            have HYN : Hid (ys = (L.take (k + 1)).filter (fun t => t.2 != id)) := Lib.hid (by rw [HYS.out]; exact (filter_no hkl (by rw [HZ.out]; exact heb)).symm)
            clear he
            go_wp2
            go_roundw
            case rel => exact ⟨k + 1, by omega, by go_num, Ao, co, ys, HYN.out, rfl, W2⟩
            case measure => simp [intOf]; omega
          · have heb : (z2 != id) = true := by simpa using he
            have HYN : Hid (ys ++ [(z1, z2)] = (L.take (k + 1)).filter (fun t => t.2 != id)) := Lib.hid (by rw [HYS.out, ← HZ.out]; exact (filter_yes hkl (by rw [HZ.out]; exact heb)).symm)
            have W4 := Lib.hid (W2.out.below ((Below.refl V.heap.size V).alloc (Nat.le_refl _) (.cells #[.int .i64 z1, .int .i64 z2] 24)))
            have T1 := Lib.hid (tms1 V 24 FA.out FB.out)
            have hsz : w3.heap.size ≤ V.heap.size := W2.out.bl.size
            clear he W2 KA
            go_wp2_with (at_builtin; refine wpList_append_tms _ rfl _ _ 22 rfl 24 _ rfl Try.underlying22 infoT w3.heap.size Ao co ys _ rfl rfl W4.out.o (some ⟨V.heap.size, 0, none⟩) 1 1 [(z1, z2)] rfl T1.out (by omega) (by simp; omega) ?_; intro A2 c2 w4 ho hgr; have W5 := Lib.hid (CaI.app W4.out ho hgr); clear ho hgr a0 a1 la T1 W4)
            go_roundw
            case rel => exact ⟨k + 1, by omega, by go_num, A2, c2, _, HYN.out, by simp, W5⟩
            case measure => simp [intOf]; omega
        · obtain rfl : n = k := by omega
          have e : ys = lessId (orderF l) id := by rw [hys, ← LL.out, List.take_length, HL.out]; rfl
          subst e
          go_wp2
          exact bodyPost_ret (v := .tuple #[.slice Ao (lessId (orderF l) id).length co, .int .i64 0]) (by simp [results, Try.results14, go_sem]) rfl ⟨Ao, co, rfl, WI.out.o.base B3.out.size, below3 B3.out WI.out.bl⟩
    · rw [if_neg hid]
      go_enter Try.func14, Try.ntmps14
      go_wp2_with fail
      refine (rcheck_any A n c l _ HX.out).mono ?_
      rw [if_pos hok]
      rintro e w1 ⟨rfl, b1⟩
      have B1 := Lib.hid b1
      clear b1
      go_wp2_with fail
      refine (at8_any A n c l id _ (HX.out.below B1.out)).mono ?_
      rintro e w2 ⟨r, rfl, hr, b2⟩
      have B2 := Lib.hid (below3 B1.out b2)
      have hr2 : r < 0 := by rcases Int.lt_or_le r 0 with h | h; exact h; exact absurd (hr.1 h) hid
      clear b2 hr
      go_wp2
      exact bodyPost_ret (v := .tuple #[.slice none 0 0, .int .i64 5]) (by simp [results, Try.results14, go_sem]) rfl ⟨none, 0, rfl, OwnT.nil_ _ _ _, B2.out⟩
  · rw [if_neg hok]
    go_enter Try.func14, Try.ntmps14
    go_wp2_with fail
    refine (rcheck_any A n c l _ HX.out).mono ?_
    rw [if_neg hok]
    rintro e w1 ⟨rfl, b1⟩
    have B1 := Lib.hid b1
    clear b1
    go_wp2
    exact bodyPost_ret (v := .tuple #[.slice none 0 0, .int .i64 1]) (by simp [results, Try.results14, go_sem]) rfl ⟨none, 0, rfl, OwnT.nil_ _ _ _, B1.out⟩

end Go.Proofs.Ytjamoafihmcmeaa

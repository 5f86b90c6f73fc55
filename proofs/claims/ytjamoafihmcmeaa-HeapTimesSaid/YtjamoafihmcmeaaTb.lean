/-
  The document's layer 8: a list in order with a timer; a list in order.
-/
import Derived.Test.YtjamoafihmcmeaaTa
import Derived.Deep.QuietTactic
import Derived.BigQuiet
import Derived.Deep.CutBlock
namespace Go.Proofs.Ytjamoafihmcmeaa
open Go.RowKit

def withF (l : List Tm) (t : Tm) : List Tm := l.filter (fun x => !decide (lessT t x)) ++ t :: l.filter (fun x => decide (lessT t x))
def orderF (l : List Tm) : List Tm := l.foldl withF []
def NewT (p : List Tm) (w : World) (e : Ending) (w' : World) : Prop :=
  ∃ A c, e = .returned (.slice A p.length c) ∧ OwnT 24 w' w.heap.size A c p ∧ Below w.heap.size w w'
theorem tms1 (w : World) (E : TypeId) {a b : Int} (fa : Fit a) (fb : Fit b) : Tms (w.alloc (.cells #[.int .i64 a, .int .i64 b] E)) (some ⟨w.heap.size, 0, none⟩) 1 1 [(a, b)] := by
  have k := Bk.new w E #[.int .i64 a, .int .i64 b]
  refine ⟨rfl, by omega, by simpa [FitI] using ⟨fa, fb⟩, fun _ => ⟨w.heap.size, 0, rfl, k.lt, fun j hj => ?_⟩⟩
  obtain rfl : j = 0 := by omega
  exact ⟨k.cell 0, k.cell 1⟩
theorem take_succ {l : List Tm} {k : Nat} (h : k < l.length) : l.take (k + 1) = l.take k ++ [ith l k] := by
  rw [List.take_add_one, List.getElem?_eq_getElem h, ith_get h]; rfl
theorem filter_yes {l : List Tm} {k : Nat} (h : k < l.length) {f : Tm → Bool} (hf : f (ith l k) = true) : (l.take (k + 1)).filter f = (l.take k).filter f ++ [ith l k] := by rw [take_succ h]; simp [hf]
theorem filter_no {l : List Tm} {k : Nat} (h : k < l.length) {f : Tm → Bool} (hf : f (ith l k) = false) : (l.take (k + 1)).filter f = (l.take k).filter f := by rw [take_succ h]; simp [hf]
theorem filter_few (l : List Tm) (k : Nat) (f : Tm → Bool) : ((l.take k).filter f).length ≤ k := Nat.le_trans (List.length_filter_le _ _) (by rw [List.length_take]; omega)
/-- A loop of with: the timer's box, the row so far. -/
structure WiI (w wr : World) (t1 t2 : Int) (A : Option Addr) (c : Nat) (xs : List Tm) : Prop where
  k : Bk wr w.heap.size 24 #[.int .i64 t1, .int .i64 t2]
  o : OwnT 24 wr (w.heap.size + 1) A c xs
  bl : Below w.heap.size w wr
theorem WiI.app {w wr w' : World} {t1 t2 : Int} {A A' : Option Addr} {c c' : Nat} {xs ys : List Tm} (h : WiI w wr t1 t2 A c xs) (ho : OwnT 24 w' (w.heap.size + 1) A' c' ys) (hg : wr.grownBy w' (Value.slice A xs.length c).ownBlock) : WiI w w' t1 t2 A' c' ys :=
  ⟨h.k.grown hg (fun e => by have := h.o.block _ e.symm; omega), ho, h.bl.grown hg h.bl.size (fun j hj => by have := h.o.block j hj; omega)⟩
theorem WiI.below {w wr w' : World} {t1 t2 : Int} {A : Option Addr} {c : Nat} {xs : List Tm} (h : WiI w wr t1 t2 A c xs) (hb : Below wr.heap.size wr w') : WiI w w' t1 t2 A c xs := ⟨h.k.below hb h.k.lt, h.o.below hb, below3 h.bl hb⟩

set_option maxHeartbeats 2000000 in
theorem with_any (A : Option Addr) (n c : Nat) (l : List Tm) (t1 t2 : Int) (w : World) (hx : Tms w A n c l) (f1 : Fit t1) (f2 : Fit t2) (hn : n ≤ 2000) :
    Calls Try.prog 38 #[.slice A n c, .agg #[.int .i64 t1, .int .i64 t2]] w (NewT (withF l (t1, t2)) w) := by
  have HX := Lib.hid hx
  have LX := Lib.hid hx.1
  have F1 := Lib.hid f1
  have F2 := Lib.hid f2
  have k0 := Bk.new w 24 #[.int .i64 t1, .int .i64 t2]
  have b0 := (Below.refl w.heap.size w).alloc (Nat.le_refl _) (.cells #[.int .i64 t1, .int .i64 t2] 24)
  obtain ⟨W, hW⟩ : ∃ W, w.alloc (.cells #[.int .i64 t1, .int .i64 t2] 24) = W := ⟨_, rfl⟩
  rw [hW] at k0 b0
  have HW := Lib.hid hW
  have I0 := Lib.hid (⟨k0, OwnT.nil_ _ _ _, b0⟩ : WiI w W t1 t2 none 0 [])
  clear hx f1 f2 k0 b0 hW
  go_enter Try.func38, Try.ntmps38
  go_upto_region 1 with fail
  rw [HW.out]
  clear HW
  go_wp2_with fail
  go_loopw [5, 12] (fun u5 t wr => ∃ k : Nat, k ≤ n ∧ t = .int .i64 k ∧ ∃ Ao co ys, ys = (l.take k).filter (fun x => !decide (lessT (t1, t2) x)) ∧ u5 = .slice Ao ys.length co ∧ Hid (WiI w wr t1 t2 Ao co ys)) (fun _ t _ => n - (intOf t).toNat)
  case atStart => exact ⟨0, Nat.zero_le _, rfl, none, 0, [], rfl, rfl, I0⟩
  case round =>
    rename World => wr
    clear I0
    obtain ⟨k, hk, rfl, Ao, co, ys, hys, rfl, WI⟩ := hrel
    by_cases hkn : k < n
    · obtain ⟨bL, oL, rfl, hbL, c0, c1⟩ := (HX.out.below WI.out.bl).at_ hkn
      obtain ⟨fa, fb⟩ := HX.out.fit hkn
      have hkl : k < l.length := by rw [LX.out]; exact hkn
      have hyl : ys.length ≤ k := by rw [hys]; exact filter_few _ _ _
      obtain ⟨z1, hz1⟩ : ∃ z, jO l k = z := ⟨_, rfl⟩
      obtain ⟨z2, hz2⟩ : ∃ z, jA l k = z := ⟨_, rfl⟩
      rw [hz1] at c0 fa
      rw [hz2] at c1 fb
      have hz : ith l k = (z1, z2) := by rw [← hz1, ← hz2]; rfl
      have HZ := Lib.hid hz
      have FA := Lib.hid fa
      have FB := Lib.hid fb
      have HYS := Lib.hid hys
      have q0 : _ = some (Value.int .i64 t1) := WI.out.k.cell 0
      have q1 : _ = some (Value.int .i64 t2) := WI.out.k.cell 1
      have ka := Bk.new wr 24 #[.int .i64 z1, .int .i64 z2]
      have W2 := WI.out.below ((Below.refl wr.heap.size wr).alloc (Nat.le_refl _) (.cells #[.int .i64 z1, .int .i64 z2] 24))
      obtain ⟨g, hg⟩ : ∃ g, wr.heap.size = g := ⟨_, rfl⟩
      have hgw : w.heap.size < g := by rw [← hg]; exact WI.out.k.lt
      obtain ⟨V, hV⟩ : ∃ V, wr.alloc (.cells #[.int .i64 z1, .int .i64 z2] 24) = V := ⟨_, rfl⟩
      rw [hV] at ka W2
      rw [hg] at ka
      have HV := Lib.hid hV
      have HG := Lib.hid hg
      have KA := Lib.hid ka
      have W2 := Lib.hid W2
      clear hV hg ka hz1 hz2 fa fb hz hys q0 q1
      go_upto_region 5 with fail
      rw [HV.out]
      try rw [HG.out]
      clear HV HG c0 c1 WI
      have a0 : _ = some (Value.int .i64 z1) := KA.out.cell 0
      have a1 : _ = some (Value.int .i64 z2) := KA.out.cell 1
      have q0 : _ = some (Value.int .i64 t1) := W2.out.k.cell 0
      have q1 : _ = some (Value.int .i64 t2) := W2.out.k.cell 1
      have la := KA.out.lt
      have lq := W2.out.k.lt
      go_wp2_with fail
      refine (less_any t1 t2 z1 z2 _).mono ?_
      by_cases hls : lessT (t1, t2) (z1, z2)
      · rw [decide_eq_true hls]
        rintro e U ⟨rfl, bU⟩
        have W3 := W2.out.below bU
        have KB := KA.out.below bU KA.out.lt
        clear bU a0 a1 q0 q1 la lq KA W2
        go_wp2
        go_roundw
        case rel => exact ⟨k + 1, by omega, by go_num, Ao, co, ys, by rw [HYS.out, filter_no hkl (by rw [HZ.out]; simp [hls])], rfl, Lib.hid W3⟩
        case measure => simp [intOf]; omega
      · rw [decide_eq_false hls]
        rintro e U ⟨rfl, bU⟩
        have W3 := W2.out.below bU
        have KB := KA.out.below bU KA.out.lt
        clear bU a0 a1 q0 q1 la lq KA W2
        have a0 : _ = some (Value.int .i64 z1) := KB.cell 0
        have a1 : _ = some (Value.int .i64 z2) := KB.cell 1
        have la := KB.lt
        have b1 := (Below.refl U.heap.size U).alloc (Nat.le_refl _) (.cells #[.int .i64 z1, .int .i64 z2] 24)
        have W4 := Lib.hid (W3.below b1)
        have T1 := Lib.hid (tms1 U 24 FA.out FB.out)
        have hsz : w.heap.size + 1 ≤ U.heap.size := W3.k.lt
        clear b1 W3 KB
        go_wp2_with (at_builtin; refine wpList_append_tms _ rfl _ _ 22 rfl 24 _ rfl Try.underlying22 infoT (w.heap.size + 1) Ao co ys _ rfl rfl W4.out.o (some ⟨U.heap.size, 0, none⟩) 1 1 [(z1, z2)] rfl T1.out (by omega) (by simp; omega) ?_; intro A2 c2 w3 ho hgr; have W5 := Lib.hid (WiI.app W4.out ho hgr); clear ho hgr a0 a1 la T1 W4)
        go_roundw
        case rel => exact ⟨k + 1, by omega, by go_num, A2, c2, _, by rw [HYS.out, filter_yes hkl (by rw [HZ.out]; simp [hls]), HZ.out], by simp, W5⟩
        case measure => simp [intOf]; omega
    · obtain rfl : n = k := by omega
      clear hk hkn
      have hyl : ys.length ≤ n := by rw [hys]; exact filter_few _ _ _
      have q0 : _ = some (Value.int .i64 t1) := WI.out.k.cell 0
      have q1 : _ = some (Value.int .i64 t2) := WI.out.k.cell 1
      have lq := WI.out.k.lt
      have b1 := (Below.refl wr.heap.size wr).alloc (Nat.le_refl _) (.cells #[.int .i64 t1, .int .i64 t2] 24)
      have W4 := Lib.hid (WI.out.below b1)
      have T1 := Lib.hid (tms1 wr 24 F1.out F2.out)
      have hys2 : ys = l.filter (fun x => !decide (lessT (t1, t2) x)) := by rw [hys, ← LX.out, List.take_length]
      have HY2 := Lib.hid hys2
      clear b1 hys hys2 WI
      go_wp2_with (at_builtin; refine wpList_append_tms _ rfl _ _ 22 rfl 24 _ rfl Try.underlying22 infoT (w.heap.size + 1) Ao co ys _ rfl rfl W4.out.o (some ⟨wr.heap.size, 0, none⟩) 1 1 [(t1, t2)] rfl T1.out (by omega) (by simp; have := W4.out.k.lt; omega) ?_; intro A2 c2 w3 ho hgr; rw [HY2.out] at ho ⊢; have W7 := Lib.hid (WiI.app W4.out ho hgr); clear ho hgr q0 q1 lq T1 W4)
      go_loopw [5, 31] (fun u5 t wr => ∃ k : Nat, k ≤ n ∧ t = .int .i64 k ∧ ∃ Ao co ys, ys = (l.filter (fun x => !decide (lessT (t1, t2) x)) ++ (t1, t2) :: (l.take k).filter (fun x => decide (lessT (t1, t2) x))) ∧ u5 = .slice Ao ys.length co ∧ Hid (WiI w wr t1 t2 Ao co ys)) (fun _ t _ => n - (intOf t).toNat)
      case atStart => exact ⟨0, Nat.zero_le _, rfl, A2, c2, _, by simp, by simp, W7⟩
      case round =>
        rename World => wr
        clear W7
        obtain ⟨k, hk, rfl, Ao, co, ys, hys, rfl, WI⟩ := hrel
        by_cases hkn : k < n
        · obtain ⟨bL, oL, rfl, hbL, c0, c1⟩ := (HX.out.below WI.out.bl).at_ hkn
          obtain ⟨fa, fb⟩ := HX.out.fit hkn
          have hkl : k < l.length := by rw [LX.out]; exact hkn
          have hyl : ys.length ≤ n + 1 + k := by rw [hys]; rw [List.length_append, List.length_cons]; exact Nat.le_trans (Nat.add_le_add (LX.out ▸ List.length_filter_le _ l) (Nat.add_le_add_right (filter_few l k _) 1)) (by omega)
          obtain ⟨z1, hz1⟩ : ∃ z, jO l k = z := ⟨_, rfl⟩
          obtain ⟨z2, hz2⟩ : ∃ z, jA l k = z := ⟨_, rfl⟩
          rw [hz1] at c0 fa
          rw [hz2] at c1 fb
          have hz : ith l k = (z1, z2) := by rw [← hz1, ← hz2]; rfl
          have HZ := Lib.hid hz
          have FA := Lib.hid fa
          have FB := Lib.hid fb
          have HYS := Lib.hid hys
          have q0 : _ = some (Value.int .i64 t1) := WI.out.k.cell 0
          have q1 : _ = some (Value.int .i64 t2) := WI.out.k.cell 1
          have ka := Bk.new wr 24 #[.int .i64 z1, .int .i64 z2]
          have W2 := WI.out.below ((Below.refl wr.heap.size wr).alloc (Nat.le_refl _) (.cells #[.int .i64 z1, .int .i64 z2] 24))
          obtain ⟨g, hg⟩ : ∃ g, wr.heap.size = g := ⟨_, rfl⟩
          have hgw : w.heap.size < g := by rw [← hg]; exact WI.out.k.lt
          obtain ⟨V, hV⟩ : ∃ V, wr.alloc (.cells #[.int .i64 z1, .int .i64 z2] 24) = V := ⟨_, rfl⟩
          rw [hV] at ka W2
          rw [hg] at ka
          have HV := Lib.hid hV
          have HG := Lib.hid hg
          have KA := Lib.hid ka
          have W2 := Lib.hid W2
          clear hV hg ka hz1 hz2 fa fb hz hys q0 q1
          go_upto_region 12 with fail
          rw [HV.out]
          try rw [HG.out]
          clear HV HG c0 c1 WI
          have a0 : _ = some (Value.int .i64 z1) := KA.out.cell 0
          have a1 : _ = some (Value.int .i64 z2) := KA.out.cell 1
          have q0 : _ = some (Value.int .i64 t1) := W2.out.k.cell 0
          have q1 : _ = some (Value.int .i64 t2) := W2.out.k.cell 1
          have la := KA.out.lt
          have lq := W2.out.k.lt
          go_wp2_with fail
          refine (less_any t1 t2 z1 z2 _).mono ?_
          by_cases hls : lessT (t1, t2) (z1, z2)
          · rw [decide_eq_true hls]
            rintro e U ⟨rfl, bU⟩
            have W3 := W2.out.below bU
            have KB := KA.out.below bU KA.out.lt
            clear bU a0 a1 q0 q1 la lq KA W2
            have a0 : _ = some (Value.int .i64 z1) := KB.cell 0
            have a1 : _ = some (Value.int .i64 z2) := KB.cell 1
            have la := KB.lt
            have b1 := (Below.refl U.heap.size U).alloc (Nat.le_refl _) (.cells #[.int .i64 z1, .int .i64 z2] 24)
            have W4 := Lib.hid (W3.below b1)
            have T1 := Lib.hid (tms1 U 24 FA.out FB.out)
            have hsz : w.heap.size + 1 ≤ U.heap.size := W3.k.lt
            clear b1 W3 KB
            go_wp2_with (at_builtin; refine wpList_append_tms _ rfl _ _ 22 rfl 24 _ rfl Try.underlying22 infoT (w.heap.size + 1) Ao co ys _ rfl rfl W4.out.o (some ⟨U.heap.size, 0, none⟩) 1 1 [(z1, z2)] rfl T1.out (by omega) (by simp; omega) ?_; intro A2 c2 w3 ho hgr; have W5 := Lib.hid (WiI.app W4.out ho hgr); clear ho hgr a0 a1 la T1 W4)
            go_roundw
            case rel => exact ⟨k + 1, by omega, by go_num, A2, c2, _, by rw [HYS.out, filter_yes hkl (by rw [HZ.out]; simp [hls]), HZ.out]; simp [List.append_assoc], by simp, W5⟩
            case measure => simp [intOf]; omega
          · rw [decide_eq_false hls]
            rintro e U ⟨rfl, bU⟩
            have W3 := W2.out.below bU
            have KB := KA.out.below bU KA.out.lt
            clear bU a0 a1 q0 q1 la lq KA W2
            go_wp2
            go_roundw
            case rel => exact ⟨k + 1, by omega, by go_num, Ao, co, ys, by rw [HYS.out, filter_no hkl (by rw [HZ.out]; simp [hls])], rfl, Lib.hid W3⟩
            case measure => simp [intOf]; omega
        · obtain rfl : n = k := by omega
          clear hk hkn
          go_wp2
          go_ret
          have e : ys = withF l (t1, t2) := by rw [hys, ← LX.out, List.take_length]; rfl
          subst e
          exact ⟨Ao, co, rfl, WI.out.o.base (by omega), WI.out.bl⟩

end Go.Proofs.Ytjamoafihmcmeaa

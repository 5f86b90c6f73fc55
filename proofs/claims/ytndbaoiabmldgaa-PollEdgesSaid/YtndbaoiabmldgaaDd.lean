/-
  The document's layer 9: New and Waits.
-/
import Derived.Test.YtndbaoiabmldgaaDc
namespace Go.Proofs.Ytndbaoiabmldgaa
open Go.RowKit

theorem infoI8 : (Try.prog.info? 2).map (fun i => (i.zero, i.size, i.bytes)) = some (some (.int .i64 0), 1, 8) := by kernel_rfl
/-- A row of its own that grows: of numbers, of descriptors. -/
structure WaI (U wr : World) (A : Option Addr) (c : Nat) (xs : List Int) : Prop where
  o : OwnI 2 wr U.heap.size A c xs
  bl : Below U.heap.size U wr
theorem WaI.below {U wr w' : World} {A : Option Addr} {c : Nat} {xs : List Int} (h : WaI U wr A c xs) (hb : Below wr.heap.size wr w') : WaI U w' A c xs := ⟨h.o.below hb, below3 h.bl hb⟩
theorem WaI.app {U wr w' : World} {A A' : Option Addr} {c c' : Nat} {xs ys : List Int} (h : WaI U wr A c xs) (ho : OwnI 2 w' U.heap.size A' c' ys) (hg : wr.grownBy w' (Value.slice A xs.length c).ownBlock) : WaI U w' A' c' ys :=
  ⟨ho, h.bl.grown hg h.bl.size (fun j hj => h.o.block j hj)⟩
theorem WaI.cap {U wr : World} {A : Option Addr} {c : Nat} {xs : List Int} (h : WaI U wr A c xs) : xs.length ≤ c ∧ c ≤ 9223372036854775807 := by
  rcases h.o.2.2.2 with ⟨h1, h2⟩ | ⟨g, cap, cur, e, hb, hh, hc, hm, _⟩
  · injection h1 with _ _ h1
    omega
  · injection e with e1 e2 e3
    subst e3
    unfold maxLen at hm
    omega
structure DaI (U wr : World) (A : Option Addr) (c : Nat) (xs : List Ds) : Prop where
  o : OwnD 34 wr U.heap.size A c xs
  bl : Below U.heap.size U wr
theorem DaI.below {U wr w' : World} {A : Option Addr} {c : Nat} {xs : List Ds} (h : DaI U wr A c xs) (hb : Below wr.heap.size wr w') : DaI U w' A c xs := ⟨h.o.below hb, below3 h.bl hb⟩
theorem DaI.app {U wr w' : World} {A A' : Option Addr} {c c' : Nat} {xs ys : List Ds} (h : DaI U wr A c xs) (ho : OwnD 34 w' U.heap.size A' c' ys) (hg : wr.grownBy w' (Value.slice A xs.length c).ownBlock) : DaI U w' A' c' ys :=
  ⟨ho, h.bl.grown hg h.bl.size (fun j hj => h.o.block j hj)⟩
theorem dss1 (w : World) (E : TypeId) {o r : Bool} {z : Int} (fz : Fit z) : Dss (w.alloc (.cells #[.bool o, .bool r, .int .i64 z] E)) (some ⟨w.heap.size, 0, none⟩) 1 1 [(o, r, z)] := by
  have k := Bk.new w E #[.bool o, .bool r, .int .i64 z]
  refine ⟨rfl, by omega, by simpa [FitD] using fz, fun _ => ⟨w.heap.size, 0, rfl, k.lt, fun j hj => ?_⟩⟩
  obtain rfl : j = 0 := by omega
  exact ⟨k.cell 0, k.cell 1, k.cell 2⟩
theorem dtake_succ {l : List Ds} {k : Nat} (h : k < l.length) : l.take (k + 1) = l.take k ++ [dth l k] := by
  rw [List.take_add_one, List.getElem?_eq_getElem h, dth_get h]; rfl
theorem waitL_app (a b : List Ds) : waitL (a ++ b) = waitL a ++ waitL b := by simp [waitL]
theorem waitL_yes {l : List Ds} {k : Nat} (h : k < l.length) (h0 : 0 ≤ who l k) : waitL (l.take (k + 1)) = waitL (l.take k) ++ [who l k] := by
  rw [dtake_succ h, waitL_app]
  unfold who at h0
  simp [waitL, who, h0]
theorem waitL_no {l : List Ds} {k : Nat} (h : k < l.length) (h0 : ¬ 0 ≤ who l k) : waitL (l.take (k + 1)) = waitL (l.take k) := by
  rw [dtake_succ h, waitL_app]
  unfold who at h0
  simp [waitL, h0]
theorem waitL_few (l : List Ds) (k : Nat) : (waitL (l.take k)).length ≤ k := by
  unfold waitL
  refine Nat.le_trans (List.length_filter_le _ _) ?_
  rw [List.length_map, List.length_take]
  omega

set_option maxHeartbeats 2000000 in
theorem rnew_any (n : Int) (w : World) : Calls Try.prog 22 #[.int .i64 n] w (ListD (newR n) w) := by
  unfold newR
  by_cases h : 0 ≤ n ∧ n ≤ 16
  · rw [if_pos h]
    obtain ⟨m, rfl⟩ := Int.eq_ofNat_of_zero_le h.1
    obtain ⟨p, hp⟩ : ∃ p, List.replicate (m : Int).toNat nilD = p := ⟨_, rfl⟩
    rw [hp]
    have HP := Lib.hid hp
    have hm : m ≤ 16 := by omega
    have t0 : decide ((m : Int) < 0) = false := decide_eq_false (by omega)
    have t1 : decide (16 < (m : Int)) = false := decide_eq_false (by omega)
    clear h hp
    go_enter Try.func22, Try.ntmps22
    go_wp2_with fail
    go_loopw [4, 12] (fun u4 t wr => ∃ k : Nat, k ≤ m ∧ t = .int .i64 k ∧ ∃ Ao co ys, ys = List.replicate k nilD ∧ u4 = .slice Ao ys.length co ∧ Hid (DaI w wr Ao co ys)) (fun _ t _ => m - (intOf t).toNat)
    case atStart => exact ⟨0, Nat.zero_le _, rfl, none, 0, [], rfl, rfl, Lib.hid ⟨OwnD.nil_ _ _ _, Below.refl _ _⟩⟩
    case round =>
      clear t0 t1
      rename World => wr
      obtain ⟨k, hk, rfl, Ao, co, ys, hys, rfl, WI⟩ := hrel
      have HYS := Lib.hid hys
      have hyl : ys.length ≤ k := by rw [hys, List.length_replicate]; exact Nat.le_refl _
      clear hys
      by_cases hkn : k < m
      · have HYN : Hid (ys ++ [nilD] = List.replicate (k + 1) nilD) := Lib.hid (by rw [HYS.out, List.replicate_succ'])
        have W4 := Lib.hid (WI.out.below ((Below.refl wr.heap.size wr).alloc (Nat.le_refl _) (.cells #[.bool false, .bool false, .int .i64 (-1)] 34)))
        have T1 := Lib.hid (dss1 wr 34 (o := false) (r := false) (show Fit (-1) by decide))
        have hsz : w.heap.size ≤ wr.heap.size := WI.out.bl.size
        clear WI
        go_wp2_with (at_builtin; refine wpList_append_dss _ rfl _ _ 22 rfl 34 _ rfl Try.underlying22 infoD w.heap.size Ao co ys _ rfl rfl W4.out.o (some ⟨wr.heap.size, 0, none⟩) 1 1 [nilD] rfl T1.out (by omega) (by simp; omega) ?_; intro A2 c2 w4 ho hgr; have W5 := Lib.hid (DaI.app W4.out ho hgr); clear ho hgr T1 W4)
        go_roundw
        case rel => exact ⟨k + 1, by omega, by go_num, A2, c2, _, HYN.out, by simp, W5⟩
        case measure => simp [intOf]; omega
      · obtain rfl : m = k := by omega
        have e : ys = p := by rw [HYS.out, ← HP.out, Int.toNat_natCast]
        subst e
        have HF := Lib.hid WI.out.o
        have HB := Lib.hid WI.out.bl
        clear hyl
        go_wp2_with fail
        exact bodyPost_ret (v := .tuple #[.slice Ao ys.length co, .int .i64 0]) (by simp [results, Try.results22, go_sem]) rfl ⟨Ao, co, rfl, HF.out, HB.out⟩
  · rw [if_neg h]
    by_cases h0 : n < 0
    · have t0 : decide (n < 0) = true := decide_eq_true h0
      clear h h0
      go_enter Try.func22, Try.ntmps22
      go_wp2_with fail
      exact bodyPost_ret (v := .tuple #[.slice none 0 0, .int .i64 1]) (by simp [results, Try.results22, go_sem]) rfl ⟨none, 0, rfl, OwnD.nil_ _ _ _, Below.refl _ _⟩
    · have t0 : decide (n < 0) = false := decide_eq_false h0
      have t1 : decide (16 < n) = true := decide_eq_true (by omega)
      clear h h0
      go_enter Try.func22, Try.ntmps22
      go_wp2_with fail
      exact bodyPost_ret (v := .tuple #[.slice none 0 0, .int .i64 1]) (by simp [results, Try.results22, go_sem]) rfl ⟨none, 0, rfl, OwnD.nil_ _ _ _, Below.refl _ _⟩

set_option maxHeartbeats 4000000 in
theorem rwaits_any (A : Option Addr) (n c : Nat) (l : List Ds) (w : World) (hx : Dss w A n c l) :
    Calls Try.prog 24 #[.slice A n c] w (ListI (waitsR l) w) := by
  have HX := Lib.hid hx
  have LX := Lib.hid hx.1
  have hnc := hx.2.1
  clear hx
  have HC := Lib.hid (rcheck_any A n c l w HX.out)
  unfold waitsR
  by_cases hok : pollOk l
  · rw [if_pos hok]
    rw [if_pos hok] at HC
    have HOK := Lib.hid hok
    have hn16 : n ≤ 16 := by rw [← LX.out]; exact hok.1
    clear hok
    go_enter Try.func24, Try.ntmps24
    go_wp2_with fail
    refine HC.out.mono ?_
    rintro e w1 ⟨rfl, b1⟩
    have B1 := Lib.hid b1
    have HX1 := Lib.hid (HX.out.below b1)
    clear b1 HC
    go_wp2_with fail
    go_loopw [4, 12] (fun u4 t wr => ∃ k : Nat, k ≤ n ∧ t = .int .i64 k ∧ ∃ Ao co ys, ys = waitL (l.take k) ∧ u4 = .slice Ao ys.length co ∧ Hid (WaI w1 wr Ao co ys)) (fun _ t _ => n - (intOf t).toNat)
    case atStart => exact ⟨0, Nat.zero_le _, rfl, none, 0, [], rfl, rfl, Lib.hid ⟨OwnI.nil_ _ _ _, Below.refl _ _⟩⟩
    case round =>
      rename World => wr
      obtain ⟨k, hk, rfl, Ao, co, ys, hys, rfl, WI⟩ := hrel
      by_cases hkn : k < n
      · obtain ⟨bL, oL, rfl, hbL, c0, c1, c2⟩ := (HX1.out.below WI.out.bl).at_ hkn
        have hkl : k < l.length := by rw [LX.out]; exact hkn
        obtain ⟨⟨o1, r1, z1⟩, hz⟩ : ∃ x, dth l k = x := ⟨_, rfl⟩
        have fz : Fit z1 := by have := HX.out.fit hkn; rw [hz] at this; exact this
        rw [hz] at c0 c1 c2
        simp only at c0 c1 c2
        have HW := Lib.hid (who_def l k hz)
        have hlo : -1 ≤ z1 := by have := (HOK.out.2 k hkl).1.2.2; rw [hz] at this; exact this
        have hyl : ys.length ≤ k := by rw [hys]; exact waitL_few l k
        have HYS := Lib.hid hys
        have FZ := Lib.hid fz
        have ba := (Below.refl wr.heap.size wr).alloc (Nat.le_refl _) (.cells #[.bool o1, .bool r1, .int .i64 z1] 34)
        have ka := Bk.new wr 34 #[.bool o1, .bool r1, .int .i64 z1]
        have W2 := WI.out.below ba
        obtain ⟨g, hg⟩ : ∃ g, wr.heap.size = g := ⟨_, rfl⟩
        obtain ⟨V, hV⟩ : ∃ V, wr.alloc (.cells #[.bool o1, .bool r1, .int .i64 z1] 34) = V := ⟨_, rfl⟩
        rw [hV] at ka W2
        rw [hg] at ka
        have HV := Lib.hid hV
        have HG := Lib.hid hg
        have KA := Lib.hid ka
        have W2 := Lib.hid W2
        clear hV hg ka ba hz fz hys
        go_upto_region 7 with fail
        rw [HV.out]
        try rw [HG.out]
        clear HV HG c0 c1 c2 hbL WI
        have a2 : _ = some (Value.int .i64 z1) := KA.out.cell 2
        have la := KA.out.lt
        by_cases h0 : 0 ≤ z1
        · have t1 : decide (0 ≤ z1) = true := decide_eq_true h0
          have HYN : Hid (ys ++ [z1] = waitL (l.take (k + 1))) := Lib.hid (by rw [HYS.out, ← HW.out]; exact (waitL_yes hkl (by rw [HW.out]; exact h0)).symm)
          have W4 := Lib.hid (W2.out.below ((Below.refl V.heap.size V).alloc (Nat.le_refl _) (.cells #[.int .i64 z1] 2)))
          have T1 := Lib.hid (ints1 V 2 FZ.out)
          have hsz : w1.heap.size ≤ V.heap.size := W2.out.bl.size
          clear h0 hlo W2 KA
          go_wp2_with (at_builtin; refine wpList_append_ints _ rfl _ _ 37 rfl 2 Try.underlying37 infoI8 w1.heap.size Ao co ys _ rfl rfl W4.out.o (some ⟨V.heap.size, 0, none⟩) 1 1 [z1] rfl T1.out (by omega) (by simp; omega) ?_; intro A2 c2 w4 ho hgr; have W5 := Lib.hid (WaI.app W4.out ho hgr); clear ho hgr a2 la T1 W4)
          go_roundw
          case rel => exact ⟨k + 1, by omega, by go_num, A2, c2, _, HYN.out, by simp, W5⟩
          case measure => simp [intOf]; omega
        · have t1 : decide (0 ≤ z1) = false := decide_eq_false h0
          have HYN : Hid (ys = waitL (l.take (k + 1))) := Lib.hid (by rw [HYS.out]; exact (waitL_no hkl (by rw [HW.out]; exact h0)).symm)
          clear h0 hlo
          go_wp2_with fail
          go_roundw
          case rel => exact ⟨k + 1, by omega, by go_num, Ao, co, ys, HYN.out, rfl, W2⟩
          case measure => simp [intOf]; omega
      · obtain rfl : n = k := by omega
        have e : ys = waitL l := by rw [hys, ← LX.out, List.take_length]
        subst e
        have hcp := WI.out.cap
        have HCP := Lib.hid hcp
        have HF := Lib.hid (WI.out.o.base B1.out.size)
        have HB := Lib.hid (below3 B1.out WI.out.bl)
        clear hcp hys
        go_wp2_with fail
        exact bodyPost_ret (v := .tuple #[.slice Ao (waitL l).length co, .int .i64 0]) (by simp [results, Try.results24, go_sem]) rfl ⟨Ao, co, rfl, HF.out, HB.out, HCP.out⟩
  · rw [if_neg hok]
    rw [if_neg hok] at HC
    clear hok
    go_enter Try.func24, Try.ntmps24
    go_wp2_with fail
    refine HC.out.mono ?_
    rintro e w1 ⟨rfl, b1⟩
    have B1 := Lib.hid b1
    clear b1 HC
    go_wp2_with fail
    exact bodyPost_ret (v := .tuple #[.slice none 0 0, .int .i64 1]) (by simp [results, Try.results24, go_sem]) rfl ⟨none, 0, rfl, OwnI.nil_ _ _ _, B1.out, by decide⟩

end Go.Proofs.Ytndbaoiabmldgaa

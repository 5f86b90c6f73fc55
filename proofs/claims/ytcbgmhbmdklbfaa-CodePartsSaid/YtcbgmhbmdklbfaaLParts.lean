/-
  The walk of the law CodeParts of layer 4.
-/
import Derived.Test.YtcbgmhbmdklbfaaLUnits
namespace Go.Proofs.Ytcbgmhbmdklbfaa
open Go.RowKit

theorem ok_one {x : I3} (h : mayB x = true) : okP [x] := ⟨by simp, by simp, fun j hj => by
  obtain rfl : j = 0 := by simpa using hj
  exact h⟩
theorem no_one {x : I3} (h : mayB x = false) : ¬ okP [x] := fun h' => by
  have := h'.2.2 0 (by simp)
  rw [show ith [x] 0 = x from rfl, h] at this
  cases this

theorem prog_one {w : World} {g : Nat} (hg : g = w.heap.size) {o a b : Int} (h : FitI (o, a, b)) : Prog (w.alloc (.cells #[.int .i64 o, .int .i64 a, .int .i64 b] 42)) (some ⟨g, 0, none⟩) 1 1 [(o, a, b)] :=
  prog_of (n := 1) (Bk.at_ hg 42 (cellsP [(o, a, b)]).toArray) rfl (by simpa using h) (by omega)

/-- The relation of the first loop. -/
def LP1Rel (n : Nat) (w : World) (t : Value) (wr : World) : Prop := ∃ k : Nat, k ≤ n ∧ t = .int .i64 k ∧ Below w.heap.size w wr
/-- The relation of the second loop. -/
def LP2Rel (p : List I3) (n : Nat) (w : World) (x t : Value) (wr : World) : Prop := ∃ k : Nat, k ≤ n ∧ t = .int .i64 k ∧ x = .bool (exB p k) ∧ Below w.heap.size w wr

set_option maxRecDepth 100000 in
set_option maxHeartbeats 2000000 in
theorem lparts_big (A B : Option Addr) (n c m d : Nat) (w : World) (hn : n ≤ 9223372036854775807) (hm : m ≤ 9223372036854775807) (h : 60 < n ∨ 60 < m) :
    Calls Try.prog 8 #[.slice A n c, .slice B m d] w (TrueAns w) := by
  by_cases h1 : 60 < n
  all_goals
    go_enter Try.func8, Try.ntmps8
    go_wp2_with fail
    refine (live_any _).mono ?_
    rintro e w1 ⟨rfl, hb1⟩
    have HB := Lib.hid hb1
    clear hb1
    go_wp2
    go_ret
    exact ⟨rfl, HB.out⟩

set_option maxRecDepth 100000 in
set_option maxHeartbeats 4000000 in
theorem lparts_small (A B : Option Addr) (n c m d : Nat) (p q : List I3) (w : World) (hp : Prog w A n c p) (hq : Prog w B m d q) (hn : n ≤ 60) (hm : m ≤ 60) :
    Calls Try.prog 8 #[.slice A n c, .slice B m d] w (TrueAns w) := by
  have HP := Lib.hid hp
  have HQ := Lib.hid hq
  have HN := Lib.hid hp.1
  have HM := Lib.hid hq.1
  clear hp hq
  go_enter Try.func8, Try.ntmps8
  go_wp2_with fail
  refine (live_any _).mono ?_
  rintro e w1 ⟨rfl, hb1⟩
  have HB1 := Lib.hid hb1
  clear hb1
  go_wp2
  go_loopw [32] (fun t wr => LP1Rel n w t wr) (fun t _ => n - (intOf t).toNat)
  case atStart => exact ⟨0, Nat.zero_le _, rfl, HB1.out⟩
  case round =>
    obtain ⟨k, hk, rfl, hb⟩ := hrel
    have HB := Lib.hid hb
    clear hb
    by_cases hlt : k < n
    · have hft := HP.out.fit hlt
      obtain ⟨b, o, rfl, hbl, g0, g1, g2⟩ := (HP.out.below HB.out).at_ hlt
      have HF := Lib.hid hft
      clear hft
      have HB2 := Lib.hid (HB.out.alloc HB.out.size (.cells #[.int .i64 (jO p k), .int .i64 (jA p k), .int .i64 (jB p k)] 42))
      have HB3 := Lib.hid (HB2.out.alloc HB2.out.size (.cells #[.int .i64 (jO p k), .int .i64 (jA p k), .int .i64 (jB p k)] 42))
      go_wp2_with fail
      have hone := prog_one (w := wr.alloc (.cells #[.int .i64 (jO p k), .int .i64 (jA p k), .int .i64 (jB p k)] 42)) (g := wr.heap.size + 1) (by simp) HF.out
      refine (check_any _ 1 1 [(jO p k, jA p k, jB p k)] _ hone).mono ?_
      clear hone
      rintro e w2 ⟨rfl, hb2⟩
      have HB4 := Lib.hid (below3 HB3.out hb2)
      clear hb2
      by_cases hx : mayB (jO p k, jA p k, jB p k) = true
      · rw [errP_ok (ok_one hx)]
        clear hx
        go_wp2
        go_roundw
        case rel => exact ⟨k + 1, by omega, by go_num, HB4.out⟩
        case measure => simp [intOf]; omega
      · replace hx := bool_no hx
        rw [errP_no (no_one hx)]
        have HE := Lib.hid (errP_bad (p := p) (k := k) (by rw [HN.out]; exact hlt) hx)
        clear hx
        go_wp2_with fail
        refine (check_any _ n c p _ (HP.out.below HB4.out)).mono ?_
        rintro e w3 ⟨rfl, hb3⟩
        rw [HE.out]
        have HB5 := Lib.hid (below3 HB4.out hb3)
        clear hb3
        go_wp2
        go_roundw
        case rel => exact ⟨k + 1, by omega, by go_num, HB5.out⟩
        case measure => simp [intOf]; omega
    · go_wp2_with fail
      refine (units_any A n c p _ (HP.out.below HB.out)).mono ?_
      rintro e w2 ⟨he, hb2⟩
      have HB2 := Lib.hid (below3 HB.out hb2)
      clear hb2
      by_cases hop : okP p
      · rw [unitsA_ok hop] at he
        subst he
        have HOP := Lib.hid hop
        clear hop
        go_wp2_with fail
        refine (units_any B m d q _ (HQ.out.below HB2.out)).mono ?_
        rintro e w3 ⟨he, hb3⟩
        have HB3 := Lib.hid (below3 HB2.out hb3)
        clear hb3
        by_cases hoq : okP q
        · rw [unitsA_ok hoq] at he
          subst he
          have HOQ := Lib.hid hoq
          clear hoq
          go_wp2_with (first
            | (at_builtin; refine wpList_append_prog _ rfl _ _ 25 rfl 42 _ rfl Try.underlying25 Try.instrInfo w.heap.size none 0 [] 0 rfl rfl (OwnP.nil_ _ _ _) A n c p rfl (HP.out.below HB3.out) (by simp; omega) HB3.out.size ?_
               intro A1 c1 w4 hown4 hg4
               have HO4 := Lib.hid hown4
               have HB4 := Lib.hid (HB3.out.grown hg4 HB3.out.size (by simp [Value.ownBlock]))
               clear hown4 hg4)
            | (at_builtin; refine wpList_append_prog _ rfl _ _ 25 rfl 42 _ rfl Try.underlying25 Try.instrInfo w.heap.size A1 c1 ([] ++ p) _ (by simp) rfl HO4.out B m d q rfl (HQ.out.below HB4.out) (by simp [HN.out]; omega) HB4.out.size ?_
               intro A2 c2 w5 hown5 hg5
               have HO5 := Lib.hid hown5
               have HB5 := Lib.hid (HB4.out.grown hg5 HB4.out.size HO4.out.block)
               clear hown5 hg5))
          have HO6 : Hid (Prog w5 A2 (p.length + q.length) c2 (p ++ q)) := Lib.hid (by have := HO5.out.prog; simpa using this)
          refine (units_any A2 _ c2 _ _ HO6.out).mono ?_
          rintro e w6 ⟨he, hb6⟩
          have HE6 := Lib.hid he
          have HB6 := Lib.hid (below3 HB5.out hb6)
          clear hb6 he
          have ub1 := unitsK_bound HOP.out (runLen_le p)
          have ub2 := unitsK_bound HOQ.out (runLen_le q)
          have ur1 := runLen_le p
          have ur2 := runLen_le q
          have ul1 := HOP.out.2.1
          have ul2 := HOQ.out.2.1
          have hsum : 0 ≤ units p ∧ units p ≤ 3200 ∧ 0 ≤ units q ∧ units q ≤ 3200 := by unfold units; omega
          clear ub1 ub2 ur1 ur2 ul1 ul2
          by_cases hlen : 32 < p.length + q.length
          · have hno : ¬ okP (p ++ q) := fun h => by have := h.2.1; rw [List.length_append] at this; omega
            rw [HE6.out, unitsA_no hno]
            clear hno
            go_wp2
            go_loopw [15, 74] (fun x t wr => LP2Rel p n w x t wr) (fun _ t _ => n - (intOf t).toNat)
            case atStart => exact ⟨0, Nat.zero_le _, rfl, by rw [exB_zero], HB6.out⟩
            case round =>
              obtain ⟨i, hi, rfl, rfl, hb7⟩ := hrel
              have HB7 := Lib.hid hb7
              clear hb7
              by_cases hlt2 : i < n
              · obtain ⟨b, o, rfl, hbl, g0, g1, g2⟩ := (HP.out.below HB7.out).at_ hlt2
                have HB8 := fun X => Lib.hid (HB7.out.alloc HB7.out.size X)
                by_cases hx : exB p i = true
                · have HX := Lib.hid (exB_hit hx)
                  go_wp2
                  go_roundw
                  case rel => exact ⟨i + 1, by omega, by go_num, by rw [HX.out], (HB8 _).out⟩
                  case measure => simp [intOf]; omega
                · replace hx := bool_no hx
                  have HX := Lib.hid (exB_next hx)
                  go_wp2
                  go_roundw
                  case rel => exact ⟨i + 1, by omega, by go_num, by rw [HX.out], (HB8 _).out⟩
                  case measure => simp [intOf]; omega
              · go_wp2
                go_ret
                exact ⟨rfl, HB7.out⟩
          · have hok : okP (p ++ q) := okP_app HOP.out HOQ.out (by omega)
            rw [HE6.out, unitsA_ok hok]
            clear hok
            generalize hu : units (p ++ q) = u
            have HU1 : Hid (hasExit p → u = units p) := Lib.hid (fun h => by rw [← hu]; exact units_app_exit q h)
            have HU2 : Hid (¬ hasExit p → u = units p + units q) := Lib.hid (fun h => by rw [← hu]; exact units_app_none q h)
            clear hu
            go_wp2
            go_loopw [15, 74] (fun x t wr => LP2Rel p n w x t wr) (fun _ t _ => n - (intOf t).toNat)
            case atStart => exact ⟨0, Nat.zero_le _, rfl, by rw [exB_zero], HB6.out⟩
            case round =>
              obtain ⟨i, hi, rfl, rfl, hb7⟩ := hrel
              have HB7 := Lib.hid hb7
              clear hb7
              by_cases hlt2 : i < n
              · obtain ⟨b, o, rfl, hbl, g0, g1, g2⟩ := (HP.out.below HB7.out).at_ hlt2
                have HB8 := fun X => Lib.hid (HB7.out.alloc HB7.out.size X)
                by_cases hx : exB p i = true
                · have HX := Lib.hid (exB_hit hx)
                  go_wp2
                  go_roundw
                  case rel => exact ⟨i + 1, by omega, by go_num, by rw [HX.out], (HB8 _).out⟩
                  case measure => simp [intOf]; omega
                · replace hx := bool_no hx
                  have HX := Lib.hid (exB_next hx)
                  go_wp2
                  go_roundw
                  case rel => exact ⟨i + 1, by omega, by go_num, by rw [HX.out], (HB8 _).out⟩
                  case measure => simp [intOf]; omega
              · obtain rfl : i = n := by omega
                generalize hex : exB p i = ex
                have HEX : Hid (ex = true ↔ hasExit p) := Lib.hid (by rw [← hex, ← HN.out]; exact exB_all)
                clear hex hlt2
                cases ex with
                | true =>
                  obtain rfl : u = units p := HU1.out (HEX.out.1 rfl)
                  go_wp2
                  go_ret
                  exact ⟨rfl, HB7.out⟩
                | false =>
                  obtain rfl : u = units p + units q := HU2.out (fun h => by have := HEX.out.2 h; cases this)
                  go_wp2
                  go_ret
                  exact ⟨rfl, HB7.out⟩
        · rw [unitsA_no hoq] at he
          subst he
          clear hoq
          go_wp2_with (first
            | (at_builtin; refine wpList_append_prog _ rfl _ _ 25 rfl 42 _ rfl Try.underlying25 Try.instrInfo w.heap.size none 0 [] 0 rfl rfl (OwnP.nil_ _ _ _) A n c p rfl (HP.out.below HB3.out) (by simp; omega) HB3.out.size ?_
               intro A1 c1 w4 hown4 hg4
               have HO4 := Lib.hid hown4
               have HB4 := Lib.hid (HB3.out.grown hg4 HB3.out.size (by simp [Value.ownBlock]))
               clear hown4 hg4)
            | (at_builtin; refine wpList_append_prog _ rfl _ _ 25 rfl 42 _ rfl Try.underlying25 Try.instrInfo w.heap.size A1 c1 ([] ++ p) _ (by simp) rfl HO4.out B m d q rfl (HQ.out.below HB4.out) (by simp [HN.out]; omega) HB4.out.size ?_
               intro A2 c2 w5 hown5 hg5
               have HO5 := Lib.hid hown5
               have HB5 := Lib.hid (HB4.out.grown hg5 HB4.out.size HO4.out.block)
               clear hown5 hg5))
          have HO6 : Hid (Prog w5 A2 (p.length + q.length) c2 (p ++ q)) := Lib.hid (by have := HO5.out.prog; simpa using this)
          refine (units_any A2 _ c2 _ _ HO6.out).mono ?_
          rintro e w6 ⟨he, hb6⟩
          have HB6 := Lib.hid (below3 HB5.out hb6)
          subst he
          clear hb6
          go_wp2
          go_ret
          exact ⟨rfl, HB6.out⟩
      · rw [unitsA_no hop] at he
        subst he
        clear hop
        go_wp2_with fail
        refine (units_any B m d q _ (HQ.out.below HB2.out)).mono ?_
        rintro e w3 ⟨rfl, hb3⟩
        have HB3 := Lib.hid (below3 HB2.out hb3)
        clear hb3
        go_wp2_with (first
          | (at_builtin; refine wpList_append_prog _ rfl _ _ 25 rfl 42 _ rfl Try.underlying25 Try.instrInfo w.heap.size none 0 [] 0 rfl rfl (OwnP.nil_ _ _ _) A n c p rfl (HP.out.below HB3.out) (by simp; omega) HB3.out.size ?_
             intro A1 c1 w4 hown4 hg4
             have HO4 := Lib.hid hown4
             have HB4 := Lib.hid (HB3.out.grown hg4 HB3.out.size (by simp [Value.ownBlock]))
             clear hown4 hg4)
          | (at_builtin; refine wpList_append_prog _ rfl _ _ 25 rfl 42 _ rfl Try.underlying25 Try.instrInfo w.heap.size A1 c1 ([] ++ p) _ (by simp) rfl HO4.out B m d q rfl (HQ.out.below HB4.out) (by simp [HN.out]; omega) HB4.out.size ?_
             intro A2 c2 w5 hown5 hg5
             have HO5 := Lib.hid hown5
             have HB5 := Lib.hid (HB4.out.grown hg5 HB4.out.size HO4.out.block)
             clear hown5 hg5))
        have HO6 : Hid (Prog w5 A2 (p.length + q.length) c2 (p ++ q)) := Lib.hid (by have := HO5.out.prog; simpa using this)
        refine (units_any A2 _ c2 _ _ HO6.out).mono ?_
        rintro e w6 ⟨he, hb6⟩
        have HB6 := Lib.hid (below3 HB5.out hb6)
        subst he
        clear hb6
        go_wp2
        go_ret
        exact ⟨rfl, HB6.out⟩

theorem lparts_any (A B : Option Addr) (n c m d : Nat) (p q : List I3) (w : World) (hp : Prog w A n c p) (hq : Prog w B m d q) :
    Calls Try.prog 8 #[.slice A n c, .slice B m d] w (TrueAns w) := by
  by_cases h : 60 < n ∨ 60 < m
  · exact lparts_big A B n c m d w (by have := hp.2.1; omega) (by have := hq.2.1; omega) h
  · exact lparts_small A B n c m d p q w hp hq (by omega) (by omega)

end Go.Proofs.Ytcbgmhbmdklbfaa

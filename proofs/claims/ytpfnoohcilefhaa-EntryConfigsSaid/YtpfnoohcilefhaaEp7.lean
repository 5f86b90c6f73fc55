/-
  Layer 19, the program: what of a config may not be, found by closures.
-/
import Derived.Test.YtpfnoohcilefhaaEp5
import Derived.Test.YtpfnoohcilefhaaFind
import Derived.Test.YtpfnoohcilefhaaSameL
namespace Go.Proofs.Ytpfnoohcilefhaa
open Go.RowKit

/-- Is there one? -/
def anyQ (n : Nat) (q : Nat → Bool) : Bool := (List.range n).any q
theorem anyQ_is {n : Nat} {q : Nat → Bool} {r : Bool} (h1 : r = true → ∃ k, k < n ∧ q k = true) (h2 : r = false → ∀ j, j < n → q j = false) : r = anyQ n q := by
  unfold anyQ
  cases r
  · symm
    rw [List.any_eq_false]
    intro j hj
    rw [h2 rfl j (List.mem_range.1 hj)]
    simp
  · symm
    obtain ⟨k, hk, h⟩ := h1 rfl
    exact List.any_eq_true.2 ⟨k, List.mem_range.2 hk, h⟩
theorem anyQ_no {n : Nat} {q : Nat → Bool} : anyQ n q = false ↔ ∀ j, j < n → q j = false := by
  unfold anyQ
  rw [List.any_eq_false]
  constructor
  · intro h j hj
    have := h j (List.mem_range.2 hj)
    simpa using this
  · intro h j hj
    rw [h j (List.mem_range.1 hj)]
    simp

set_option maxHeartbeats 400000 in
theorem equalI_en (A A' : Option Addr) (n c n' c' : Nat) (xs ys : List Int) (w : World) (hx : Ints w A n xs) (hy : Ints w A' n' ys) :
    Calls Try.prog 33 #[.slice A n c, .slice A' n' c'] w (RetB (.bool (sameB xs ys)) w) := by
  obtain ⟨lx, bx, _, cx⟩ := hx
  obtain ⟨ly, by_, _, cy⟩ := hy
  by_cases hn : n = n'
  · subst hn
    have CX := Lib.hid cx
    have CY := Lib.hid cy
    have LX := Lib.hid lx
    have LY := Lib.hid ly
    clear cx cy lx ly
    go_enter Try.func33, Try.ntmps33
    go_wp2
    go_loopw [13] (fun t wr => ∃ k : Nat, k ≤ n ∧ t = .int .i64 k ∧ (∃ d, wr = w.drewN d) ∧ Hid (∀ j, j < k → nth xs j = nth ys j)) (fun t _ => n - (intOf t).toNat)
    case atStart => exact ⟨0, Nat.zero_le _, rfl, ⟨0, rfl⟩, fun j hj => by omega⟩
    case round =>
      obtain ⟨k, hk, rfl, ⟨d, rfl⟩, hall⟩ := hrel
      by_cases hlt : k < n
      · obtain ⟨b, o, rfl, hb, hc⟩ := CX.out (by omega)
        obtain ⟨b', o', rfl, hb', hc'⟩ := CY.out (by omega)
        have c1 := hc k hlt
        have c2 := hc' k hlt
        clear hc hc'
        by_cases he : nth xs k = nth ys k
        · have hs : (nth xs k != nth ys k) = false := by rw [he]; simp
          go_wp2
          go_quiet (fail)
          go_wp2
          go_roundw
          case rel => exact ⟨k + 1, by omega, by go_num, ⟨_, rfl⟩, fun j hj => by rcases Nat.lt_or_ge j k with h | h; exact hall j h; rwa [show j = k from by omega]⟩
          case measure => simp [intOf]; omega
        · have hs : (nth xs k != nth ys k) = true := by simpa using he
          have HF := Lib.hid (sameB_at k he)
          clear he
          go_wp2
          go_quiet (fail)
          go_wp2
          go_ret
          exact RetB.of (ret_bool HF.out.symm) (below_drewN (below_drewN (Below.refl _ _) d) _)
      · have : k = n := by omega
        subst this
        have HF := Lib.hid (sameB_all LX.out LY.out hall)
        go_wp2
        go_ret
        exact RetB.of (ret_bool HF.out.symm) (below_drewN (Below.refl _ _) d)
  · have hne : ((n : Int) != (n' : Int)) = true := by simp; omega
    have hf : sameB xs ys = false := sameB_len (by omega)
    have HF := Lib.hid hf
    clear hf lx ly
    go_enter Try.func33, Try.ntmps33
    go_wp2
    go_ret
    exact RetB.of (ret_bool HF.out.symm) (Below.refl _ _)

/-- A semaphore that may not be. -/
def badS (sm : List Int) (j : Nat) : Bool := !decide (0 ≤ nth sm j ∧ nth sm j ≤ 1000)
/-- An instruction that asks for what is not there; a program that holds one. -/
def lackB (fd : Int) (r : Nat) (p : List I3) (j : Nat) : Bool := !insB fd r (ith p j)
def rowB (fd : Int) (r : Nat) (P : List (List I3)) (j : Nat) : Bool := anyQ (pth P j).length (lackB fd r (pth P j))
theorem progC_iff {x : Cf} : progC x ↔ anyQ x.P.length (rowB x.fd x.sm.length x.P) = false := by
  rw [anyQ_no]
  unfold progC rowB
  constructor
  · intro h j hj
    rw [anyQ_no]
    intro i hi
    unfold lackB
    rw [h j hj i hi]
    rfl
  · intro h j hj i hi
    have := (anyQ_no.1 (h j hj)) i hi
    unfold lackB at this
    simpa using this
theorem semsC_iff {x : Cf} : semsC x ↔ anyQ x.sm.length (badS x.sm) = false := by
  rw [anyQ_no]
  unfold semsC badS
  constructor
  · intro h j hj
    rw [decide_eq_true (h j hj)]
    rfl
  · intro h j hj
    have := h j hj
    simpa using this

theorem lack_en (o a b fd : Int) (G : Option Addr) (gb r h : Nat) (w : World) (c7 : w.cell? ⟨gb, 7, none⟩ = some (.int .i64 fd)) (c8 : w.cell? ⟨gb, 8, none⟩ = some (.slice G r h)) (lg : gb < w.heap.size) :
    Calls Try.prog 49 #[.agg #[.int .i64 o, .int .i64 a, .int .i64 b], .pointer (some ⟨gb, 0, none⟩)] w (RetB (.bool (!insB fd r (o, a, b))) w) := by
  have kt := Bk.new w 61 #[.int .i64 o, .int .i64 a, .int .i64 b]
  have ba := (Below.refl w.heap.size w).alloc (Nat.le_refl _) (.cells #[.int .i64 o, .int .i64 a, .int .i64 b] 61)
  have d7 := (ba.cell (p := ⟨gb, 7, none⟩) lg).trans c7
  have d8 := (ba.cell (p := ⟨gb, 8, none⟩) lg).trans c8
  obtain ⟨V, hV⟩ : ∃ V, w.alloc (.cells #[.int .i64 o, .int .i64 a, .int .i64 b] 61) = V := ⟨_, rfl⟩
  rw [hV] at kt ba d7 d8
  have HV := Lib.hid hV
  have BB := Lib.hid ba
  obtain ⟨q0, q1, q2⟩ := kt.c3e
  have lV := kt.lt
  clear hV kt ba c7 c8
  by_cases h5 : o = 5
  · have HE : Hid (decide (fd ≤ a) = !insB fd r (o, a, b)) := Lib.hid (by unfold insB; subst h5; simp)
    subst h5
    obtain ⟨v, hv⟩ : ∃ v, decide (fd ≤ a) = v := ⟨_, rfl⟩
    rw [hv] at HE
    rw [← HE.out]
    clear HE
    go_enter Try.func49, Try.ntmps49
    go_upto_region 1 with fail
    rw [HV.out]
    clear HV
    go_wp2_with fail
    go_ret
    exact ⟨rfl, BB.out⟩
  · have t5 : (o == 5) = false := by simpa using h5
    by_cases h7 : o = 7
    · have HE : Hid (decide ((r : Int) ≤ a) = !insB fd r (o, a, b)) := Lib.hid (by unfold insB; subst h7; simp)
      subst h7
      clear t5 h5
      obtain ⟨v, hv⟩ : ∃ v, decide ((r : Int) ≤ a) = v := ⟨_, rfl⟩
      rw [hv] at HE
      rw [← HE.out]
      clear HE
      go_enter Try.func49, Try.ntmps49
      go_upto_region 1 with fail
      rw [HV.out]
      clear HV
      go_wp2_with fail
      go_ret
      exact ⟨rfl, BB.out⟩
    · have t7 : (o == 7) = false := by simpa using h7
      by_cases h8 : o = 8
      · have HE : Hid (decide ((r : Int) ≤ a) = !insB fd r (o, a, b)) := Lib.hid (by unfold insB; subst h8; simp)
        subst h8
        clear t5 h5 t7 h7
        obtain ⟨v, hv⟩ : ∃ v, decide ((r : Int) ≤ a) = v := ⟨_, rfl⟩
        rw [hv] at HE
        rw [← HE.out]
        clear HE
        go_enter Try.func49, Try.ntmps49
        go_upto_region 1 with fail
        rw [HV.out]
        clear HV
        go_wp2_with fail
        go_ret
        exact ⟨rfl, BB.out⟩
      · have t8 : (o == 8) = false := by simpa using h8
        have HE : Hid (false = !insB fd r (o, a, b)) := Lib.hid (by unfold insB; simp [h5, h7, h8])
        rw [← HE.out]
        clear HE h5 h7 h8
        go_enter Try.func49, Try.ntmps49
        go_upto_region 1 with fail
        rw [HV.out]
        clear HV
        go_wp2_with fail
        go_ret
        exact ⟨rfl, BB.out⟩

set_option maxHeartbeats 1000000 in
theorem index_sems (A : Option Addr) (n c : Nat) (sm : List Int) (w : World) (hx : Ints w A n sm) :
    Calls Try.prog 60 #[.slice A n c, .func (.func 46) #[] #[]] w (FirstIs (badS sm) n w) := by
  have HX := Lib.hid hx
  have hn := hx.2.1
  clear hx
  go_enter Try.func60, Try.ntmps60
  go_wp2
  go_loopw [8] (fun t wr => FindRel (badS sm) n w t wr) (fun t _ => n - (intOf t).toNat)
  case atStart => exact ⟨0, Nat.zero_le _, rfl, fun j hj => absurd hj (by omega), Below.refl _ _⟩
  case round =>
    obtain ⟨k, hk, rfl, hq, hb⟩ := hrel
    have HQ := Lib.hid hq
    have HB := Lib.hid hb
    clear hq hb
    by_cases hlt : k < n
    · obtain ⟨b, o, rfl, hbl, h0⟩ := (HX.out.below HB.out).2.2.2 (by omega)
      have h1 := h0 k hlt
      obtain ⟨z, hz⟩ : ∃ z, nth sm k = z := ⟨_, rfl⟩
      rw [hz] at h1
      have HXQ : Hid (badS sm k = !decide (0 ≤ z ∧ z ≤ 1000)) := Lib.hid (by unfold badS; rw [hz])
      clear hz h0
      go_wp2_with fail
      refine (broken_en z _).mono ?_
      rintro e w1 ⟨rfl, hb1⟩
      have HB1 := Lib.hid (below3 HB.out hb1)
      clear hb1
      cases hx : (!decide (0 ≤ z ∧ z ≤ 1000))
      · have HX : Hid ((badS sm) k = false) := Lib.hid (HXQ.out.trans hx)
        clear hx
        go_wp2
        go_roundw
        case rel => exact ⟨k + 1, by omega, by go_num, fun j hj => (by
          rcases Nat.lt_or_ge j k with h | h
          · exact HQ.out j h
          · obtain rfl : j = k := by omega
            exact HX.out), HB1.out⟩
        case measure => simp [intOf]; omega
      · have HX : Hid ((badS sm) k = true) := Lib.hid (HXQ.out.trans hx)
        clear hx
        go_wp2
        go_ret
        exact ⟨k, rfl, .inr ⟨k, hlt, rfl, HX.out, HQ.out⟩, HB1.out⟩
    · go_wp2
      go_ret
      exact ⟨-1, rfl, .inl ⟨rfl, fun j hj => HQ.out j (by omega)⟩, HB.out⟩

theorem any_sems (A : Option Addr) (n c : Nat) (sm : List Int) (w : World) (hx : Ints w A n sm) :
    Calls Try.prog 41 #[.slice A n c, .func (.func 46) #[] #[]] w (RetB (.bool (anyQ n (badS sm))) w) := by
  have HC := Lib.hid (index_sems A n c sm w hx)
  go_enter Try.func41, Try.ntmps41
  go_wp2_with fail
  refine HC.out.mono ?_
  rintro e w1 ⟨r, rfl, hr, hb1⟩
  have HR := Lib.hid hr
  have HB := Lib.hid hb1
  clear hr hb1 HC
  go_wp2
  go_ret
  rw [← anyQ_is (r := decide (0 ≤ r)) (fun h => ?_) (fun h => ?_)]
  · exact ⟨rfl, HB.out⟩
  · have h := of_decide_eq_true h
    rcases HR.out with ⟨h1, _⟩ | ⟨k, hk, h1, h2, _⟩
    · omega
    · exact ⟨k, hk, h2⟩
  · have h := of_decide_eq_false h
    rcases HR.out with ⟨_, h1⟩ | ⟨k, hk, h1, h2, _⟩
    · exact h1
    · omega

set_option maxHeartbeats 1000000 in
theorem index_lack (A : Option Addr) (n c : Nat) (p : List I3) (fd : Int) (G : Option Addr) (gb r h : Nat) (w : World) (hp : Prog w A n c p) (c7 : w.cell? ⟨gb, 7, none⟩ = some (.int .i64 fd)) (c8 : w.cell? ⟨gb, 8, none⟩ = some (.slice G r h)) (lg : gb < w.heap.size) :
    Calls Try.prog 68 #[.slice A n c, .func (.func 49) #[] #[.pointer (some ⟨gb, 0, none⟩)]] w (FirstIs (lackB fd r p) n w) := by
  have HP := Lib.hid hp
  have hn := Nat.le_trans hp.2.1.1 hp.2.1.2
  have HC7 := Lib.hid c7
  have HC8 := Lib.hid c8
  clear hp c7 c8
  go_enter Try.func68, Try.ntmps68
  go_wp2
  go_loopw [8] (fun t wr => FindRel (lackB fd r p) n w t wr) (fun t _ => n - (intOf t).toNat)
  case atStart => exact ⟨0, Nat.zero_le _, rfl, fun j hj => absurd hj (by omega), Below.refl _ _⟩
  case round =>
    obtain ⟨k, hk, rfl, hq, hb⟩ := hrel
    have HQ := Lib.hid hq
    have HB := Lib.hid hb
    clear hq hb
    by_cases hlt : k < n
    · obtain ⟨b, o, rfl, hbl, h0, h1, h2⟩ := (HP.out.below HB.out).at_ hlt
      obtain ⟨⟨x, y, z⟩, hz⟩ : ∃ e, ith p k = e := ⟨_, rfl⟩
      rw [show jO p k = x by unfold jO; rw [hz]] at h0
      rw [show jA p k = y by unfold jA; rw [hz]] at h1
      rw [show jB p k = z by unfold jB; rw [hz]] at h2
      have HXQ : Hid (lackB fd r p k = !insB fd r (x, y, z)) := Lib.hid (by unfold lackB; rw [hz])
      clear hz
      go_wp2_with fail
      refine (lack_en x y z fd G gb r h _ ((HB.out.cell (p := ⟨gb, 7, none⟩) lg).trans HC7.out) ((HB.out.cell (p := ⟨gb, 8, none⟩) lg).trans HC8.out) (Nat.lt_of_lt_of_le lg HB.out.size)).mono ?_
      rintro e w1 ⟨rfl, hb1⟩
      have HB1 := Lib.hid (below3 HB.out hb1)
      clear hb1
      cases hx : (!insB fd r (x, y, z))
      · have HX : Hid ((lackB fd r p) k = false) := Lib.hid (HXQ.out.trans hx)
        clear hx
        go_wp2
        go_roundw
        case rel => exact ⟨k + 1, by omega, by go_num, fun j hj => (by
          rcases Nat.lt_or_ge j k with h | h
          · exact HQ.out j h
          · obtain rfl : j = k := by omega
            exact HX.out), HB1.out⟩
        case measure => simp [intOf]; omega
      · have HX : Hid ((lackB fd r p) k = true) := Lib.hid (HXQ.out.trans hx)
        clear hx
        go_wp2
        go_ret
        exact ⟨k, rfl, .inr ⟨k, hlt, rfl, HX.out, HQ.out⟩, HB1.out⟩
    · go_wp2
      go_ret
      exact ⟨-1, rfl, .inl ⟨rfl, fun j hj => HQ.out j (by omega)⟩, HB.out⟩

theorem any_lack (A : Option Addr) (n c : Nat) (p : List I3) (fd : Int) (G : Option Addr) (gb r h : Nat) (w : World) (hp : Prog w A n c p) (c7 : w.cell? ⟨gb, 7, none⟩ = some (.int .i64 fd)) (c8 : w.cell? ⟨gb, 8, none⟩ = some (.slice G r h)) (lg : gb < w.heap.size) :
    Calls Try.prog 52 #[.slice A n c, .func (.func 49) #[] #[.pointer (some ⟨gb, 0, none⟩)]] w (RetB (.bool (anyQ n (lackB fd r p))) w) := by
  have HC := Lib.hid (index_lack A n c p fd G gb r h w hp c7 c8 lg)
  go_enter Try.func52, Try.ntmps52
  go_wp2_with fail
  refine HC.out.mono ?_
  rintro e w1 ⟨r, rfl, hr, hb1⟩
  have HR := Lib.hid hr
  have HB := Lib.hid hb1
  clear hr hb1 HC
  go_wp2
  go_ret
  rw [← anyQ_is (r := decide (0 ≤ r)) (fun h => ?_) (fun h => ?_)]
  · exact ⟨rfl, HB.out⟩
  · have h := of_decide_eq_true h
    rcases HR.out with ⟨h1, _⟩ | ⟨k, hk, h1, h2, _⟩
    · omega
    · exact ⟨k, hk, h2⟩
  · have h := of_decide_eq_false h
    rcases HR.out with ⟨_, h1⟩ | ⟨k, hk, h1, h2, _⟩
    · exact h1
    · omega

theorem lacks_en (A : Option Addr) (n c : Nat) (p : List I3) (fd : Int) (G : Option Addr) (gb r h g3 : Nat) (w : World) (hp : Prog w A n c p) (c7 : w.cell? ⟨gb, 7, none⟩ = some (.int .i64 fd)) (c8 : w.cell? ⟨gb, 8, none⟩ = some (.slice G r h)) (lg : gb < w.heap.size) (c3 : w.cell? ⟨g3, 0, none⟩ = some (.func (.func 49) #[] #[.pointer (some ⟨gb, 0, none⟩)])) :
    Calls Try.prog 51 #[.slice A n c, .pointer (some ⟨g3, 0, none⟩)] w (RetB (.bool (anyQ n (lackB fd r p))) w) := by
  have HC := Lib.hid (any_lack A n c p fd G gb r h w hp c7 c8 lg)
  clear hp c7 c8
  generalize anyQ n (lackB fd r p) = v at HC ⊢
  go_enter Try.func51, Try.ntmps51
  go_wp2_with fail
  refine HC.out.mono ?_
  rintro e U ⟨rfl, bU⟩
  have BU := Lib.hid bU
  clear bU HC
  go_wp2_with fail
  go_ret
  exact ⟨rfl, BU.out⟩

set_option maxHeartbeats 1000000 in
theorem index_prgs (A : Option Addr) (n c : Nat) (P : List (List I3)) (fd : Int) (G : Option Addr) (gb r h g3 : Nat) (w : World) (hp : Prgs w A n P) (c7 : w.cell? ⟨gb, 7, none⟩ = some (.int .i64 fd)) (c8 : w.cell? ⟨gb, 8, none⟩ = some (.slice G r h)) (lg : gb < w.heap.size) (c3 : w.cell? ⟨g3, 0, none⟩ = some (.func (.func 49) #[] #[.pointer (some ⟨gb, 0, none⟩)])) (l3 : g3 < w.heap.size) :
    Calls Try.prog 67 #[.slice A n c, .func (.func 51) #[] #[.pointer (some ⟨g3, 0, none⟩)]] w (FirstIs (rowB fd r P) n w) := by
  have HP := Lib.hid hp
  have HN := Lib.hid hp.1
  have hn := hp.2.1
  have HC7 := Lib.hid c7
  have HC8 := Lib.hid c8
  have HC3 := Lib.hid c3
  clear hp c7 c8 c3
  go_enter Try.func67, Try.ntmps67
  go_wp2
  go_loopw [8] (fun t wr => FindRel (rowB fd r P) n w t wr) (fun t _ => n - (intOf t).toNat)
  case atStart => exact ⟨0, Nat.zero_le _, rfl, fun j hj => absurd hj (by omega), Below.refl _ _⟩
  case round =>
    obtain ⟨k, hk, rfl, hq, hb⟩ := hrel
    have HQ := Lib.hid hq
    have HB := Lib.hid hb
    clear hq hb
    by_cases hlt : k < n
    · obtain ⟨b, o, D, m, d, rfl, hbl, g0, hr⟩ := (HP.out.below HB.out).at_ hlt
      have HR := Lib.hid hr
      have HML := Lib.hid hr.1
      have HXQ : Hid (rowB fd r P k = anyQ m (lackB fd r (pth P k))) := Lib.hid (by unfold rowB; rw [hr.1])
      clear hr
      go_wp2_with fail
      refine (lacks_en D m d (pth P k) fd G gb r h g3 _ HR.out ((HB.out.cell (p := ⟨gb, 7, none⟩) lg).trans HC7.out) ((HB.out.cell (p := ⟨gb, 8, none⟩) lg).trans HC8.out) (Nat.lt_of_lt_of_le lg HB.out.size) ((HB.out.cell (p := ⟨g3, 0, none⟩) l3).trans HC3.out)).mono ?_
      rintro e w1 ⟨rfl, hb1⟩
      have HB1 := Lib.hid (below3 HB.out hb1)
      clear hb1
      cases hx : anyQ m (lackB fd r (pth P k))
      · have HX : Hid ((rowB fd r P) k = false) := Lib.hid (HXQ.out.trans hx)
        clear hx
        go_wp2
        go_roundw
        case rel => exact ⟨k + 1, by omega, by go_num, fun j hj => (by
          rcases Nat.lt_or_ge j k with h | h
          · exact HQ.out j h
          · obtain rfl : j = k := by omega
            exact HX.out), HB1.out⟩
        case measure => simp [intOf]; omega
      · have HX : Hid ((rowB fd r P) k = true) := Lib.hid (HXQ.out.trans hx)
        clear hx
        go_wp2
        go_ret
        exact ⟨k, rfl, .inr ⟨k, hlt, rfl, HX.out, HQ.out⟩, HB1.out⟩
    · go_wp2
      go_ret
      exact ⟨-1, rfl, .inl ⟨rfl, fun j hj => HQ.out j (by omega)⟩, HB.out⟩

theorem any_prgs (A : Option Addr) (n c : Nat) (P : List (List I3)) (fd : Int) (G : Option Addr) (gb r h g3 : Nat) (w : World) (hp : Prgs w A n P) (c7 : w.cell? ⟨gb, 7, none⟩ = some (.int .i64 fd)) (c8 : w.cell? ⟨gb, 8, none⟩ = some (.slice G r h)) (lg : gb < w.heap.size) (c3 : w.cell? ⟨g3, 0, none⟩ = some (.func (.func 49) #[] #[.pointer (some ⟨gb, 0, none⟩)])) (l3 : g3 < w.heap.size) :
    Calls Try.prog 50 #[.slice A n c, .func (.func 51) #[] #[.pointer (some ⟨g3, 0, none⟩)]] w (RetB (.bool (anyQ n (rowB fd r P))) w) := by
  have HC := Lib.hid (index_prgs A n c P fd G gb r h g3 w hp c7 c8 lg c3 l3)
  go_enter Try.func50, Try.ntmps50
  go_wp2_with fail
  refine HC.out.mono ?_
  rintro e w1 ⟨r, rfl, hr, hb1⟩
  have HR := Lib.hid hr
  have HB := Lib.hid hb1
  clear hr hb1 HC
  go_wp2
  go_ret
  rw [← anyQ_is (r := decide (0 ≤ r)) (fun h => ?_) (fun h => ?_)]
  · exact ⟨rfl, HB.out⟩
  · have h := of_decide_eq_true h
    rcases HR.out with ⟨h1, _⟩ | ⟨k, hk, h1, h2, _⟩
    · omega
    · exact ⟨k, hk, h2⟩
  · have h := of_decide_eq_false h
    rcases HR.out with ⟨_, h1⟩ | ⟨k, hk, h1, h2, _⟩
    · exact h1
    · omega

end Go.Proofs.Ytpfnoohcilefhaa

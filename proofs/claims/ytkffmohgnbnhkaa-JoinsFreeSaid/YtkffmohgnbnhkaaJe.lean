/-
  The document's layer 11: For, Wait, Done, Drop.
-/
import Derived.Test.YtkffmohgnbnhkaaJd
namespace Go.Proofs.Ytkffmohgnbnhkaa
open Go.RowKit

/-- Joins, and an error, are handed back; numbers, and an error; numbers, joins, and an error. -/
def RetJ (r : Int × List Tm) (w : World) (e : Ending) (w' : World) : Prop :=
  ∃ A c, e = .returned (.tuple #[.slice A r.2.length c, .int .i64 r.1]) ∧ OwnT 37 w' w.heap.size A c r.2 ∧ Below w.heap.size w w'
def RetN (r : Int × List Int) (w : World) (e : Ending) (w' : World) : Prop :=
  ∃ A c, e = .returned (.tuple #[.slice A r.2.length c, .int .i64 r.1]) ∧ OwnI 2 w' w.heap.size A c r.2 ∧ Below w.heap.size w w'
def RetNJ (r : Int × List Int × List Tm) (w : World) (e : Ending) (w' : World) : Prop :=
  ∃ A c B d, e = .returned (.tuple #[.slice A r.2.1.length c, .slice B r.2.2.length d, .int .i64 r.1]) ∧ OwnI 2 w' w.heap.size A c r.2.1 ∧ OwnT 37 w' w.heap.size B d r.2.2 ∧ Below w.heap.size w w'
theorem retJ_no (x : Int) {w w' : World} (h : Below w.heap.size w w') : RetJ (x, []) w (.returned (.tuple #[.slice none 0 0, .int .i64 x])) w' := ⟨none, 0, rfl, OwnT.nil_ _ _ _, h⟩
theorem retN_no (x : Int) {w w' : World} (h : Below w.heap.size w w') : RetN (x, []) w (.returned (.tuple #[.slice none 0 0, .int .i64 x])) w' := ⟨none, 0, rfl, OwnI.nil_ _ _ _, h⟩
theorem retNJ_no (x : Int) {w w' : World} (h : Below w.heap.size w w') : RetNJ (x, [], []) w (.returned (.tuple #[.slice none 0 0, .slice none 0 0, .int .i64 x])) w' := ⟨none, 0, none, 0, rfl, OwnI.nil_ _ _ _, OwnT.nil_ _ _ _, h⟩
theorem checkR_yes {l : List Tm} (h : okJ l) : checkR l = 0 := if_pos h
theorem checkR_no {l : List Tm} (h : ¬ okJ l) : checkR l = 1 := if_neg h
theorem ways_len {l : List Tm} (_h : okJ l) (x : Int) : (0 ≤ onL l x → 0 < (wayJ l x).length) ∧ (¬ 0 ≤ onL l x → (wayJ l x).length = 0) := by
  constructor
  · intro h0
    rcases hw : wayJ l x with _ | ⟨y, ys⟩
    · have := wayJ_nil.1 hw; omega
    · simp
  · intro h0
    rw [wayJ_nil.2 (by omega)]; rfl
set_option maxRecDepth 100000 in
set_option maxHeartbeats 4000000 in
theorem rfor_any (A : Option Addr) (n c : Nat) (l : List Tm) (x : Int) (w : World) (hx : Tms w A n c l) :
    Calls Try.prog 16 #[.slice A n c, .int .i64 x] w (RetN (forR l x) w) := by
  have HX := Lib.hid hx
  have LX := Lib.hid hx.1
  have hnc := hx.2.1
  clear hx
  by_cases hok : okJ l
  · have HC := Lib.hid (checkR_yes hok)
    have HR : Hid (forR l x = (0, wayJ l x)) := Lib.hid (if_pos hok)
    rw [HR.out]
    have hl := hok.1
    have hn : n ≤ 256 := by rw [← LX.out]; exact hl
    clear hok hl HR
    go_enter Try.func16, Try.ntmps16
    go_wp2_with fail
    refine (rcheck_any A n c l _ HX.out).mono ?_
    rw [HC.out]
    rintro e w1 ⟨rfl, b1⟩
    have B1 := Lib.hid b1
    clear b1
    go_wp2_with fail
    refine (rway_any A n c l x _ (HX.out.below B1.out) (by omega)).mono ?_
    rintro e w2 ⟨A2, c2, rfl, o2, b2⟩
    have O2 := Lib.hid (o2.base B1.out.size)
    have B2 := Lib.hid (below3 B1.out b2)
    clear o2 b2
    go_wp2_with fail
    exact bodyPost_ret (results_tmp2 rfl _ _ _) rfl ⟨A2, c2, rfl, O2.out, B2.out⟩
  · have HC := Lib.hid (checkR_no hok)
    have HR : Hid (forR l x = (1, [])) := Lib.hid (if_neg hok)
    rw [HR.out]
    clear hok HR
    go_enter Try.func16, Try.ntmps16
    go_wp2_with fail
    refine (rcheck_any A n c l _ HX.out).mono ?_
    rw [HC.out]
    rintro e w1 ⟨rfl, b1⟩
    have B1 := Lib.hid b1
    clear b1
    go_wp2_with fail
    exact bodyPost_ret (results_tmp2 rfl _ _ _) rfl (by exact retN_no 1 B1.out)

set_option maxRecDepth 100000 in
set_option maxHeartbeats 4000000 in
theorem rdrop_any (A : Option Addr) (n c : Nat) (l : List Tm) (x : Int) (w : World) (hx : Tms w A n c l) :
    Calls Try.prog 14 #[.slice A n c, .int .i64 x] w (RetJ (dropR l x) w) := by
  have HX := Lib.hid hx
  have LX := Lib.hid hx.1
  have hnc := hx.2.1
  clear hx
  by_cases hok : okJ l
  · have HC := Lib.hid (checkR_yes hok)
    have hl := hok.1
    have hn : n ≤ 256 := by rw [← LX.out]; exact hl
    have HLW := Lib.hid (ways_len hok x)
    by_cases hon : 0 ≤ onL l x
    · have HR : Hid (dropR l x = (0, lessJ l x)) := Lib.hid (by unfold dropR; rw [if_pos hok, if_pos hon])
      rw [HR.out]
      obtain ⟨zs, hzs⟩ : ∃ zs, lessJ l x = zs := ⟨_, rfl⟩
      have HZS := Lib.hid hzs
      rw [hzs]
      obtain ⟨m, hm⟩ : ∃ m, (wayJ l x).length = m := ⟨_, rfl⟩
      have HM := Lib.hid hm
      have t0 : ((m : Int) == 0) = false := by have := HLW.out.1 hon; simp; omega
      clear hok hl HR hon HLW hm hzs
      go_enter Try.func14, Try.ntmps14
      go_wp2_with fail
      refine (rcheck_any A n c l _ HX.out).mono ?_
      rw [HC.out]
      rintro e w1 ⟨rfl, b1⟩
      have B1 := Lib.hid b1
      clear b1
      go_wp2_with fail
      refine (rway_any A n c l x _ (HX.out.below B1.out) (by omega)).mono ?_
      rintro e w2 ⟨A2, c2, rfl, o2, b2⟩
      have O2 := Lib.hid (o2.base B1.out.size)
      have B2 := Lib.hid (below3 B1.out b2)
      have hcap2 := o2.cap
      clear o2 b2
      rw [HM.out]
      rw [HM.out] at hcap2
      clear O2
      go_wp2_with fail
      go_loopw [6, 19] (fun t6 t wr => ∃ (k : Nat) (Ao : Option Addr) (co : Nat) (ys : List Tm), k ≤ n ∧ t = .int .i64 k ∧ t6 = .slice Ao ys.length co ∧ ys.length ≤ k ∧ Hid (ys = lessJ (l.take k) x) ∧ Hid (OwnT 37 wr w.heap.size Ao co ys) ∧ Hid (Below w.heap.size w wr)) (fun _ t _ => n - (intOf t).toNat)
      case atStart => exact ⟨0, none, 0, [], by omega, rfl, rfl, Nat.le_refl _, Lib.hid rfl, Lib.hid (OwnT.nil_ _ _ _), B2⟩
      case round =>
        clear B1 B2
        rename World => wr
        obtain ⟨k, Ao, co, ys, hk, rfl, rfl, hyl, YS, OY, BW⟩ := hrel
        by_cases hkn : k < n
        · obtain ⟨bL, oL, rfl, hbL, c0, c1⟩ := (HX.out.below BW.out).at_ hkn
          have hkl : k < l.length := by rw [LX.out]; exact hkn
          have HNX := Lib.hid (less_next hkl x)
          have HFT := Lib.hid (HX.out.fit hkn)
          obtain ⟨z1, hz1⟩ : ∃ z, jO l k = z := ⟨_, rfl⟩
          obtain ⟨z2, hz2⟩ : ∃ z, jA l k = z := ⟨_, rfl⟩
          have HIT := Lib.hid (show ith l k = (z1, z2) by rw [← hz1, ← hz2]; rfl)
          rw [hz1] at c0 HFT
          rw [hz2] at c1 HFT HNX
          have k1 := Bk.new wr 37 #[.int .i64 z1, .int .i64 z2]
          have b1 := (Below.refl wr.heap.size wr).alloc (Nat.le_refl _) (.cells #[.int .i64 z1, .int .i64 z2] 37)
          have d0 := k1.c0
          have d1 := k1.c1
          have O3 := Lib.hid (OY.out.below b1)
          have B3 := Lib.hid (below3 BW.out b1)
          by_cases he : z2 = x
          · have t0 : (z2 != x) = false := by simpa using he
            have YN : Hid (ys = lessJ (l.take (k + 1)) x) := Lib.hid (by rw [HNX.out, if_pos he]; exact YS.out)
            clear he HNX YS hz1 hz2 k1 b1 OY BW
            go_wp2_with fail
            go_roundw
            case rel => exact ⟨k + 1, Ao, co, ys, by omega, by go_num, rfl, by omega, YN, O3, B3⟩
            case measure => simp [intOf]; omega
          · have t0 : (z2 != x) = true := by simpa using he
            have YN : Hid (ys ++ [(z1, z2)] = lessJ (l.take (k + 1)) x) := Lib.hid (by rw [HNX.out, if_neg he, HIT.out, ← YS.out])
            have b2 := (Below.refl (wr.alloc (.cells #[.int .i64 z1, .int .i64 z2] 37)).heap.size _).alloc (Nat.le_refl _) (.cells #[.int .i64 z1, .int .i64 z2] 37)
            have O4 := Lib.hid (O3.out.below b2)
            have B4 := Lib.hid (below3 B3.out b2)
            have T1 := Lib.hid (tms1 (wr.alloc (.cells #[.int .i64 z1, .int .i64 z2] 37)) 37 HFT.out.1 HFT.out.2)
            have HS2 := Lib.hid B4.out.size
            rw [size_alloc] at T1
            clear he HNX YS hz1 hz2 k1 b1 b2 OY BW O3 B3
            go_wp2_with (at_builtin; refine wpList_append_tms _ rfl _ _ 22 rfl 37 _ rfl Try.underlying22 infoT w.heap.size Ao co ys _ rfl rfl O4.out (some ⟨wr.heap.size + 1, 0, none⟩) 1 1 [(z1, z2)] rfl T1.out (by omega) HS2.out ?_; intro A2 c2 w4 ho hgr; have O5 := Lib.hid ho; have B5 := Lib.hid (below_appT B4.out O4.out hgr HS2.out); clear ho hgr T1 O4 B4)
            go_roundw
            case rel => exact ⟨k + 1, A2, c2, _, by omega, by go_num, by simp, by simp; omega, YN, O5, B5⟩
            case measure => simp [intOf]; omega
        · obtain rfl : n = k := by omega
          have e : ys = zs := by rw [YS.out, ← HZS.out, ← LX.out, List.take_length]
          subst e
          clear YS
          go_wp2_with fail
          exact bodyPost_ret (results_tmp2 rfl _ _ _) rfl ⟨Ao, co, rfl, OY.out, BW.out⟩
    · have HR : Hid (dropR l x = (5, [])) := Lib.hid (by unfold dropR; rw [if_pos hok, if_neg hon])
      rw [HR.out]
      obtain ⟨m, hm⟩ : ∃ m, (wayJ l x).length = m := ⟨_, rfl⟩
      have HM := Lib.hid hm
      have t0 : ((m : Int) == 0) = true := by have := HLW.out.2 hon; simp; omega
      clear hok hl HR hon HLW hm
      go_enter Try.func14, Try.ntmps14
      go_wp2_with fail
      refine (rcheck_any A n c l _ HX.out).mono ?_
      rw [HC.out]
      rintro e w1 ⟨rfl, b1⟩
      have B1 := Lib.hid b1
      clear b1
      go_wp2_with fail
      refine (rway_any A n c l x _ (HX.out.below B1.out) (by omega)).mono ?_
      rintro e w2 ⟨A2, c2, rfl, o2, b2⟩
      have O2 := Lib.hid (o2.base B1.out.size)
      have B2 := Lib.hid (below3 B1.out b2)
      have hcap2 := o2.cap
      clear o2 b2
      rw [HM.out]
      rw [HM.out] at hcap2
      clear O2
      go_wp2_with fail
      exact bodyPost_ret (results_tmp2 rfl _ _ _) rfl (by exact retJ_no 5 B2.out)
  · have HC := Lib.hid (checkR_no hok)
    have HR : Hid (dropR l x = (1, [])) := Lib.hid (if_neg hok)
    rw [HR.out]
    clear hok HR
    go_enter Try.func14, Try.ntmps14
    go_wp2_with fail
    refine (rcheck_any A n c l _ HX.out).mono ?_
    rw [HC.out]
    rintro e w1 ⟨rfl, b1⟩
    have B1 := Lib.hid b1
    clear b1
    go_wp2_with fail
    exact bodyPost_ret (results_tmp2 rfl _ _ _) rfl (by exact retJ_no 1 B1.out)

theorem own_row {E : TypeId} {w : World} {base sz n : Nat} {A : Option Addr} {m c : Nat} {xs : List Value} (h : w.ownsRow base E sz (.slice A m c) n xs) {k i d : Nat} (hk : (Value.slice A i d).ownBlock = some k) : ∃ cs cur, w.heap[k]? = some (.cells cs E cur) := by
  rcases h.2 with ⟨e, -⟩ | ⟨g, cap, cur, e, -, hh, -⟩
  · injection e with e _ _
    subst e
    simp [Value.ownBlock] at hk
  · injection e with e _ _
    subst e
    simp [Value.ownBlock] at hk
    subst hk
    exact ⟨_, _, hh⟩
theorem own_ne {E E' : TypeId} {w : World} {b b' s s' n n' : Nat} {A A' : Option Addr} {m m' c c' : Nat} {xs xs' : List Value} (h : w.ownsRow b E s (.slice A m c) n xs) (h' : w.ownsRow b' E' s' (.slice A' m' c') n' xs') (hne : E ≠ E') {i d i' d' : Nat} :
    (Value.slice A i d).ownBlock = none ∨ (Value.slice A i d).ownBlock ≠ (Value.slice A' i' d').ownBlock := by
  rcases hA : (Value.slice A i d).ownBlock with _ | k
  · exact .inl rfl
  · refine .inr fun e => ?_
    obtain ⟨cs, cur, h1⟩ := own_row h hA
    obtain ⟨cs', cur', h2⟩ := own_row h' e.symm
    rw [h1] at h2
    injection h2 with h2
    injection h2 with _ h2 _
    exact hne h2
theorem OwnT.pastI {w w' : World} {b b' : Nat} {A A' : Option Addr} {c c' : Nat} {p : List Tm} {zs : List Int} (h : OwnT 37 w b A c p) (ho : OwnI 2 w b' A' c' zs) {i d : Nat} (hg : w.grownBy w' (Value.slice A' i d).ownBlock) : OwnT 37 w' b A c p :=
  ⟨h.1, h.2.1, h.2.2.kept hg (own_ne h.2.2 ho.2.2 (by decide))⟩
theorem OwnI.pastT {w w' : World} {b b' : Nat} {A A' : Option Addr} {c c' : Nat} {p : List Tm} {zs : List Int} (h : OwnI 2 w b A c zs) (ho : OwnT 37 w b' A' c' p) {i d : Nat} (hg : w.grownBy w' (Value.slice A' i d).ownBlock) : OwnI 2 w' b A c zs :=
  ⟨h.1, h.2.1, h.2.2.kept hg (own_ne h.2.2 ho.2.2 (by decide))⟩

set_option maxRecDepth 100000 in
set_option maxHeartbeats 4000000 in
theorem rdone_any (A : Option Addr) (n c : Nat) (l : List Tm) (x : Int) (w : World) (hx : Tms w A n c l) :
    Calls Try.prog 12 #[.slice A n c, .int .i64 x] w (RetNJ (doneR l x) w) := by
  have HX := Lib.hid hx
  have LX := Lib.hid hx.1
  have hnc := hx.2.1
  clear hx
  by_cases hok : okJ l
  · have HC := Lib.hid (checkR_yes hok)
    have hl := hok.1
    have hn : n ≤ 256 := by rw [← LX.out]; exact hl
    have HR : Hid (doneR l x = (0, goesL l x, leftL l x)) := Lib.hid (if_pos hok)
    rw [HR.out]
    obtain ⟨zs, hzs⟩ : ∃ zs, goesL l x = zs := ⟨_, rfl⟩
    have HZS := Lib.hid hzs
    rw [hzs]
    obtain ⟨ts, hts⟩ : ∃ ts, leftL l x = ts := ⟨_, rfl⟩
    have HTS := Lib.hid hts
    rw [hts]
    clear hok hl HR hzs hts
    go_enter Try.func12, Try.ntmps12
    go_wp2_with fail
    refine (rcheck_any A n c l _ HX.out).mono ?_
    rw [HC.out]
    rintro e w1 ⟨rfl, b1⟩
    have B1 := Lib.hid b1
    clear b1
    go_wp2_with fail
    go_loopw [7, 8, 16] (fun tu tv t wr => ∃ (k : Nat) (Ao : Option Addr) (co : Nat) (ys : List Int) (Bo : Option Addr) (do_ : Nat) (xs : List Tm), k ≤ n ∧ t = .int .i64 k ∧ tu = .slice Ao ys.length co ∧ tv = .slice Bo xs.length do_ ∧ ys.length ≤ k ∧ xs.length ≤ k ∧ Hid (ys = goesL (l.take k) x) ∧ Hid (xs = leftL (l.take k) x) ∧ Hid (OwnI 2 wr w.heap.size Ao co ys) ∧ Hid (OwnT 37 wr w.heap.size Bo do_ xs) ∧ Hid (Below w.heap.size w wr)) (fun _ _ t _ => n - (intOf t).toNat)
    case atStart => exact ⟨0, none, 0, [], none, 0, [], by omega, rfl, rfl, rfl, Nat.le_refl _, Nat.le_refl _, Lib.hid rfl, Lib.hid rfl, Lib.hid (OwnI.nil_ _ _ _), Lib.hid (OwnT.nil_ _ _ _), B1⟩
    case round =>
      clear B1
      rename World => wr
      obtain ⟨k, Ao, co, ys, Bo, do_, xs, hk, rfl, rfl, rfl, hyl, hxl, YS, XS, OY, OX, BW⟩ := hrel
      by_cases hkn : k < n
      · obtain ⟨bL, oL, rfl, hbL, c0, c1⟩ := (HX.out.below BW.out).at_ hkn
        have hkl : k < l.length := by rw [LX.out]; exact hkn
        have HNX := Lib.hid (goes_next hkl x)
        have HNL := Lib.hid (left_next hkl x)
        have HFT := Lib.hid (HX.out.fit hkn)
        obtain ⟨z1, hz1⟩ : ∃ z, jO l k = z := ⟨_, rfl⟩
        obtain ⟨z2, hz2⟩ : ∃ z, jA l k = z := ⟨_, rfl⟩
        have HIT := Lib.hid (show ith l k = (z1, z2) by rw [← hz1, ← hz2]; rfl)
        rw [hz1] at c0 HFT HNX HNL
        rw [hz2] at c1 HFT HNX
        have k1 := Bk.new wr 37 #[.int .i64 z1, .int .i64 z2]
        have b1 := (Below.refl wr.heap.size wr).alloc (Nat.le_refl _) (.cells #[.int .i64 z1, .int .i64 z2] 37)
        have d0 := k1.c0
        have d1 := k1.c1
        have OX3 := Lib.hid (OX.out.below b1)
        have OY3 := Lib.hid (OY.out.below b1)
        have B3 := Lib.hid (below3 BW.out b1)
        by_cases he : z1 = x
        · have t0 : (z1 == x) = true := by simpa using he
          have YN : Hid (ys ++ [z2] = goesL (l.take (k + 1)) x) := Lib.hid (by rw [HNX.out, if_pos he, ← YS.out])
          have XN : Hid (xs = leftL (l.take (k + 1)) x) := Lib.hid (by rw [HNL.out, if_pos he]; exact XS.out)
          have b2 := (Below.refl (wr.alloc (.cells #[.int .i64 z1, .int .i64 z2] 37)).heap.size _).alloc (Nat.le_refl _) (.cells #[.int .i64 z2] 2)
          have O4 := Lib.hid (OY3.out.below b2)
          have X4 := Lib.hid (OX3.out.below b2)
          have B4 := Lib.hid (below3 B3.out b2)
          have T1 := Lib.hid (ints1 (wr.alloc (.cells #[.int .i64 z1, .int .i64 z2] 37)) 2 HFT.out.2)
          have HS2 := Lib.hid B4.out.size
          rw [size_alloc] at T1
          clear he HNX HNL YS XS hz1 hz2 k1 b1 b2 OY OX BW OX3 OY3 B3
          go_wp2_with (at_builtin; refine wpList_append_ints _ rfl _ _ 27 rfl 2 Try.underlying27 infoI8 w.heap.size Ao co ys _ rfl rfl O4.out (some ⟨wr.heap.size + 1, 0, none⟩) 1 1 [z2] rfl T1.out (by omega) HS2.out ?_; intro A2 c2 w4 ho hgr; have O5 := Lib.hid ho; have X5 := Lib.hid (X4.out.pastI O4.out hgr); have B5 := Lib.hid (below_app B4.out O4.out hgr HS2.out); clear ho hgr T1 O4 B4 X4)
          go_roundw
          case rel => exact ⟨k + 1, A2, c2, ys ++ [z2], Bo, do_, xs, by omega, by go_num, by simp, rfl, by simp; omega, by omega, YN, XN, O5, X5, B5⟩
          case measure => simp [intOf]; omega
        · have t0 : (z1 == x) = false := by simpa using he
          have YN : Hid (ys = goesL (l.take (k + 1)) x) := Lib.hid (by rw [HNX.out, if_neg he]; exact YS.out)
          have XN : Hid (xs ++ [(z1, z2)] = leftL (l.take (k + 1)) x) := Lib.hid (by rw [HNL.out, if_neg he, HIT.out, ← XS.out])
          have b2 := (Below.refl (wr.alloc (.cells #[.int .i64 z1, .int .i64 z2] 37)).heap.size _).alloc (Nat.le_refl _) (.cells #[.int .i64 z1, .int .i64 z2] 37)
          have O4 := Lib.hid (OX3.out.below b2)
          have Y4 := Lib.hid (OY3.out.below b2)
          have B4 := Lib.hid (below3 B3.out b2)
          have T1 := Lib.hid (tms1 (wr.alloc (.cells #[.int .i64 z1, .int .i64 z2] 37)) 37 HFT.out.1 HFT.out.2)
          have HS2 := Lib.hid B4.out.size
          rw [size_alloc] at T1
          clear he HNX HNL YS XS hz1 hz2 k1 b1 b2 OY OX BW OX3 OY3 B3
          go_wp2_with (at_builtin; refine wpList_append_tms _ rfl _ _ 22 rfl 37 _ rfl Try.underlying22 infoT w.heap.size Bo do_ xs _ rfl rfl O4.out (some ⟨wr.heap.size + 1, 0, none⟩) 1 1 [(z1, z2)] rfl T1.out (by omega) HS2.out ?_; intro A2 c2 w4 ho hgr; have O5 := Lib.hid ho; have Y5 := Lib.hid (Y4.out.pastT O4.out hgr); have B5 := Lib.hid (below_appT B4.out O4.out hgr HS2.out); clear ho hgr T1 O4 B4 Y4)
          go_roundw
          case rel => exact ⟨k + 1, Ao, co, ys, A2, c2, xs ++ [(z1, z2)], by omega, by go_num, rfl, by simp, by omega, by simp; omega, YN, XN, Y5, O5, B5⟩
          case measure => simp [intOf]; omega
      · obtain rfl : n = k := by omega
        have e1 : ys = zs := by rw [YS.out, ← HZS.out, ← LX.out, List.take_length]
        have e2 : xs = ts := by rw [XS.out, ← HTS.out, ← LX.out, List.take_length]
        subst e1 e2
        clear YS XS
        go_wp2_with fail
        exact bodyPost_ret (results_tmp3 rfl _ _ _) rfl ⟨Ao, co, Bo, do_, rfl, OY.out, OX.out, BW.out⟩
  · have HC := Lib.hid (checkR_no hok)
    have HR : Hid (doneR l x = (1, [], [])) := Lib.hid (if_neg hok)
    rw [HR.out]
    clear hok HR
    go_enter Try.func12, Try.ntmps12
    go_wp2_with fail
    refine (rcheck_any A n c l _ HX.out).mono ?_
    rw [HC.out]
    rintro e w1 ⟨rfl, b1⟩
    have B1 := Lib.hid b1
    clear b1
    go_wp2_with fail
    exact bodyPost_ret (results_tmp3 rfl _ _ _) rfl (by exact retNJ_no 1 B1.out)

theorem hasB_or {l : List Int} {x : Int} : (hasB l x = true ∧ x ∈ l) ∨ (hasB l x = false ∧ x ∉ l) := by
  by_cases h : x ∈ l
  · exact .inl ⟨hasB_yes h, h⟩
  · exact .inr ⟨hasB_no h, h⟩

set_option maxRecDepth 100000 in
set_option maxHeartbeats 4000000 in
theorem rwait_any (A : Option Addr) (n c : Nat) (l : List Tm) (x y : Int) (w : World) (hx : Tms w A n c l) (fx : Fit x) (fy : Fit y) :
    Calls Try.prog 10 #[.slice A n c, .int .i64 x, .int .i64 y] w (RetJ (waitR l x y) w) := by
  have HX := Lib.hid hx
  have LX := Lib.hid hx.1
  have hnc := hx.2.1
  clear hx
  have HFX : Hid (FitI (x, y)) := Lib.hid ⟨fx, fy⟩
  clear fx fy
  by_cases hok : okJ l
  · have HC := Lib.hid (checkR_yes hok)
    have hl := hok.1
    have hn : n ≤ 256 := by rw [← LX.out]; exact hl
    by_cases hx0 : 0 ≤ x
    · have tx : decide (x < 0) = false := decide_eq_false (by omega)
      by_cases hy0 : 0 ≤ y
      · have ty : decide (y < 0) = false := decide_eq_false (by omega)
        have HLW := Lib.hid (ways_len hok y)
        obtain ⟨m, hm⟩ : ∃ m, (wayJ l y).length = m := ⟨_, rfl⟩
        have HM := Lib.hid hm
        by_cases hon : 0 ≤ onL l y
        · have HR : Hid (waitR l x y = (6, [])) := Lib.hid (by unfold waitR; rw [if_pos ⟨hok, hx0, hy0⟩, if_pos hon])
          rw [HR.out]
          have t0 : decide ((0 : Int) < (m : Int)) = true := by have := HLW.out.1 hon; simp; omega
          have t1 : decide (0 < m) = true := by have := HLW.out.1 hon; simp; omega
          clear hok hl HR hon HLW hm hx0 hy0
          go_enter Try.func10, Try.ntmps10
          go_wp2_with fail
          refine (rcheck_any A n c l _ HX.out).mono ?_
          rw [HC.out]
          rintro e w1 ⟨rfl, b1⟩
          have B1 := Lib.hid b1
          clear b1
          go_wp2_with fail
          refine (rway_any A n c l y _ (HX.out.below B1.out) (by omega)).mono ?_
          rintro e w2 ⟨A2, c2, rfl, o2, b2⟩
          have O2 := Lib.hid (o2.base B1.out.size)
          have B2 := Lib.hid (below3 B1.out b2)
          have hcap2 := o2.cap
          clear o2 b2
          rw [HM.out]
          rw [HM.out] at hcap2
          clear O2
          go_wp2_with fail
          exact bodyPost_ret (results_tmp2 rfl _ _ _) rfl (by exact retJ_no 6 B2.out)
        · have hm0 : m = 0 := by have := HLW.out.2 hon; omega
          have HM0 := Lib.hid (hm.trans hm0)
          clear HM hm HLW hm0
          by_cases hxy : x = y
          · have HR : Hid (waitR l x y = (9, [])) := Lib.hid (by unfold waitR; rw [if_pos ⟨hok, hx0, hy0⟩, if_neg hon, if_pos (.inl hxy)])
            rw [HR.out]
            have tq : (x == y) = true := by simpa using hxy
            clear hok hl HR hon hx0 hy0 hxy
            go_enter Try.func10, Try.ntmps10
            go_wp2_with fail
            refine (rcheck_any A n c l _ HX.out).mono ?_
            rw [HC.out]
            rintro e w1 ⟨rfl, b1⟩
            have B1 := Lib.hid b1
            clear b1
            go_wp2_with fail
            refine (rway_any A n c l y _ (HX.out.below B1.out) (by omega)).mono ?_
            rintro e w2 ⟨A2, c2, rfl, o2, b2⟩
            have O2 := Lib.hid (o2.base B1.out.size)
            have B2 := Lib.hid (below3 B1.out b2)
            have hcap2 := o2.cap
            clear o2 b2
            rw [HM0.out]
            rw [HM0.out] at hcap2
            clear O2
            go_wp2_with fail
            exact bodyPost_ret (results_tmp2 rfl _ _ _) rfl (by exact retJ_no 9 B2.out)
          · have tq : (x == y) = false := by simpa using hxy
            rcases hasB_or (l := wayJ l x) (x := y) with ⟨hb, hm⟩ | ⟨hb, hm⟩
            · have HR : Hid (waitR l x y = (9, [])) := Lib.hid (by unfold waitR; rw [if_pos ⟨hok, hx0, hy0⟩, if_neg hon, if_pos (.inr hm)])
              rw [HR.out]
              have HB := Lib.hid hb
              clear hok hl HR hon hx0 hy0 hxy hm hb
              go_enter Try.func10, Try.ntmps10
              go_wp2_with fail
              refine (rcheck_any A n c l _ HX.out).mono ?_
              rw [HC.out]
              rintro e w1 ⟨rfl, b1⟩
              have B1 := Lib.hid b1
              clear b1
              go_wp2_with fail
              refine (rway_any A n c l y _ (HX.out.below B1.out) (by omega)).mono ?_
              rintro e w2 ⟨A2, c2, rfl, o2, b2⟩
              have O2 := Lib.hid (o2.base B1.out.size)
              have B2 := Lib.hid (below3 B1.out b2)
              have hcap2 := o2.cap
              clear o2 b2
              rw [HM0.out]
              rw [HM0.out] at hcap2
              clear O2
              go_wp2_with fail
              refine (rway_any A n c l x _ (HX.out.below B2.out) (by omega)).mono ?_
              rintro e w3 ⟨A3, c3, rfl, o3, b3⟩
              have O3 := Lib.hid (o3.base B2.out.size)
              have B3 := Lib.hid (below3 B2.out b3)
              have hcap3 := o3.cap
              clear o3 b3
              go_wp2_with fail
              refine (rhas_any A3 _ c3 (wayJ l x) y _ O3.out.ints).mono ?_
              rw [HB.out]
              rintro e w4 ⟨rfl, b4⟩
              have B4 := Lib.hid (below3 B3.out b4)
              clear b4 O3
              go_wp2_with fail
              exact bodyPost_ret (results_tmp2 rfl _ _ _) rfl (by exact retJ_no 9 B4.out)
            · have HB := Lib.hid hb
              by_cases hf : n = 256
              · have HR : Hid (waitR l x y = (7, [])) := Lib.hid (by unfold waitR; rw [if_pos ⟨hok, hx0, hy0⟩, if_neg hon, if_neg (by rintro (q | q); exact hxy q; exact hm q), if_pos (by rw [LX.out]; exact hf)])
                rw [HR.out]
                have tf : ((n : Int) == 256) = true := by simp; omega
                clear hok hl HR hon hx0 hy0 hxy hm hb hf
                go_enter Try.func10, Try.ntmps10
                go_wp2_with fail
                refine (rcheck_any A n c l _ HX.out).mono ?_
                rw [HC.out]
                rintro e w1 ⟨rfl, b1⟩
                have B1 := Lib.hid b1
                clear b1
                go_wp2_with fail
                refine (rway_any A n c l y _ (HX.out.below B1.out) (by omega)).mono ?_
                rintro e w2 ⟨A2, c2, rfl, o2, b2⟩
                have O2 := Lib.hid (o2.base B1.out.size)
                have B2 := Lib.hid (below3 B1.out b2)
                have hcap2 := o2.cap
                clear o2 b2
                rw [HM0.out]
                rw [HM0.out] at hcap2
                clear O2
                go_wp2_with fail
                refine (rway_any A n c l x _ (HX.out.below B2.out) (by omega)).mono ?_
                rintro e w3 ⟨A3, c3, rfl, o3, b3⟩
                have O3 := Lib.hid (o3.base B2.out.size)
                have B3 := Lib.hid (below3 B2.out b3)
                have hcap3 := o3.cap
                clear o3 b3
                go_wp2_with fail
                refine (rhas_any A3 _ c3 (wayJ l x) y _ O3.out.ints).mono ?_
                rw [HB.out]
                rintro e w4 ⟨rfl, b4⟩
                have B4 := Lib.hid (below3 B3.out b4)
                clear b4 O3
                go_wp2_with fail
                exact bodyPost_ret (results_tmp2 rfl _ _ _) rfl (by exact retJ_no 7 B4.out)
              · have HR : Hid (waitR l x y = (0, l ++ [(x, y)])) := Lib.hid (by unfold waitR; rw [if_pos ⟨hok, hx0, hy0⟩, if_neg hon, if_neg (by rintro (q | q); exact hxy q; exact hm q), if_neg (by rw [LX.out]; exact hf)])
                rw [HR.out]
                have tf : ((n : Int) == 256) = false := by simp; omega
                clear hok hl HR hon hx0 hy0 hxy hm hb hf
                go_enter Try.func10, Try.ntmps10
                go_wp2_with fail
                refine (rcheck_any A n c l _ HX.out).mono ?_
                rw [HC.out]
                rintro e w1 ⟨rfl, b1⟩
                have B1 := Lib.hid b1
                clear b1
                go_wp2_with fail
                refine (rway_any A n c l y _ (HX.out.below B1.out) (by omega)).mono ?_
                rintro e w2 ⟨A2, c2, rfl, o2, b2⟩
                have O2 := Lib.hid (o2.base B1.out.size)
                have B2 := Lib.hid (below3 B1.out b2)
                have hcap2 := o2.cap
                clear o2 b2
                rw [HM0.out]
                rw [HM0.out] at hcap2
                clear O2
                go_wp2_with fail
                refine (rway_any A n c l x _ (HX.out.below B2.out) (by omega)).mono ?_
                rintro e w3 ⟨A3, c3, rfl, o3, b3⟩
                have O3 := Lib.hid (o3.base B2.out.size)
                have B3 := Lib.hid (below3 B2.out b3)
                have hcap3 := o3.cap
                clear o3 b3
                go_wp2_with fail
                refine (rhas_any A3 _ c3 (wayJ l x) y _ O3.out.ints).mono ?_
                rw [HB.out]
                rintro e w4 ⟨rfl, b4⟩
                have B4 := Lib.hid (below3 B3.out b4)
                have H4 := Lib.hid (HX.out.below B4.out)
                have HS4 := Lib.hid B4.out.size
                clear b4 O3 B1 B2 B3
                go_wp2_with first
                  | (at_builtin; refine wpList_append_tms _ rfl _ _ 22 rfl 37 _ rfl Try.underlying22 infoT w.heap.size none 0 [] 0 rfl rfl (OwnT.nil_ _ _ _) A n c l rfl H4.out (by simp; omega) HS4.out ?_; intro A5 c5 w5 ho hgr; rw [List.nil_append] at ho ⊢; have B5 := Lib.hid (below_appT (xs := []) (c := 0) B4.out (OwnT.nil_ 37 _ _) hgr HS4.out); have b6 := (Below.refl w5.heap.size w5).alloc (Nat.le_refl _) (.cells #[.int .i64 x, .int .i64 y] 37); have O6 := Lib.hid (OwnT.below ho b6); have B6 := Lib.hid (below3 B5.out b6); have HS6 := Lib.hid B6.out.size; have T6 := Lib.hid (tms1 w5 37 HFX.out.1 HFX.out.2); clear ho hgr b6)
                  | (at_builtin; refine wpList_append_tms _ rfl _ _ 22 rfl 37 _ rfl Try.underlying22 infoT w.heap.size A5 c5 l _ rfl rfl O6.out (some ⟨w5.heap.size, 0, none⟩) 1 1 [(x, y)] rfl T6.out (by have := LX.out; omega) HS6.out ?_; intro A7 c7 w7 ho7 hg7; have O7 := Lib.hid ho7; have B7 := Lib.hid (below_appT B6.out O6.out hg7 HS6.out); clear ho7 hg7)
                exact bodyPost_ret (results_tmp2 rfl _ _ _) rfl ⟨A7, c7, by simp, O7.out, B7.out⟩
      · have ty : decide (y < 0) = true := decide_eq_true (by omega)
        have HR : Hid (waitR l x y = (1, [])) := Lib.hid (by unfold waitR; rw [if_neg (by omega)])
        rw [HR.out]
        clear hok hl HR hx0 hy0
        go_enter Try.func10, Try.ntmps10
        go_wp2_with fail
        refine (rcheck_any A n c l _ HX.out).mono ?_
        rw [HC.out]
        rintro e w1 ⟨rfl, b1⟩
        have B1 := Lib.hid b1
        clear b1
        go_wp2_with fail
        exact bodyPost_ret (results_tmp2 rfl _ _ _) rfl (by exact retJ_no 1 B1.out)
    · have tx : decide (x < 0) = true := decide_eq_true (by omega)
      have HR : Hid (waitR l x y = (1, [])) := Lib.hid (by unfold waitR; rw [if_neg (by omega)])
      rw [HR.out]
      clear hok hl HR hx0
      go_enter Try.func10, Try.ntmps10
      go_wp2_with fail
      refine (rcheck_any A n c l _ HX.out).mono ?_
      rw [HC.out]
      rintro e w1 ⟨rfl, b1⟩
      have B1 := Lib.hid b1
      clear b1
      go_wp2_with fail
      exact bodyPost_ret (results_tmp2 rfl _ _ _) rfl (by exact retJ_no 1 B1.out)
  · have HC := Lib.hid (checkR_no hok)
    have HR : Hid (waitR l x y = (1, [])) := Lib.hid (by unfold waitR; rw [if_neg (fun q => hok q.1)])
    rw [HR.out]
    clear hok HR
    go_enter Try.func10, Try.ntmps10
    go_wp2_with fail
    refine (rcheck_any A n c l _ HX.out).mono ?_
    rw [HC.out]
    rintro e w1 ⟨rfl, b1⟩
    have B1 := Lib.hid b1
    clear b1
    go_wp2_with fail
    exact bodyPost_ret (results_tmp2 rfl _ _ _) rfl (by exact retJ_no 1 B1.out)

end Go.Proofs.Ytkffmohgnbnhkaa

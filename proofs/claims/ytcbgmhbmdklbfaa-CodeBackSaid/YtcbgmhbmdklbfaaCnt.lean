/-
  The contract of the closure that counts tasks: it calls itself, keeps what it counted, and the programs that it is on the way of.
-/
import Derived.Test.YtcbgmhbmdklbfaaCntMath
import Derived.Test.YtcbgmhbmdklbfaaFind
import Derived.Test.YtcbgmhbmdklbfaaKit
import Derived.Maps.OwnSet
namespace Go.Proofs.Ytcbgmhbmdklbfaa
open Go.RowKit Go.Maps

theorem Try.zeroUnit (w : World) : (zeroValue 62).run Try.prog w = .ok (.agg #[]) w := by kernel_rfl
theorem Try.lawInt : Keyed Try.prog 3 := int_keyed Try.underlying3

/-- The closure's value, where its variables lie from block s on. -/
def cntV (s : Nat) : Value := .func (.func 44) #[] #[.pointer (some ⟨s + 4, 0, none⟩), .pointer (some ⟨s + 2, 0, none⟩), .pointer (some ⟨s, 0, none⟩), .pointer (some ⟨s + 5, 0, none⟩)]

/-- What lies there while tasks are counted: the programs, what was counted, the map of those that were met (d at the most), and the closure itself. -/
structure CS (w0 : World) (N : Nat) (L : Option Addr) (cL : Nat) (met : Nat → Bool) (d : Nat) (ds : List Int) (w : World) : Prop where
  kl : Bk w w0.heap.size 22 #[.slice L N cL]
  row : OwnI 2 w w0.heap.size (some ⟨w0.heap.size + 1, 0, none⟩) N ds
  kc : Bk w (w0.heap.size + 2) 50 #[.slice (some ⟨w0.heap.size + 1, 0, none⟩) N N]
  mp : ∃ D : DataW Unit, w.ownsMap Try.prog 3 unitElem (w0.heap.size + 3) d D ∧ ∀ j : Nat, j < N → Maps.has D (.int .i64 j) = met j
  km : Bk w (w0.heap.size + 4) 61 #[.map (some (w0.heap.size + 3))]
  kf : Bk w (w0.heap.size + 5) 48 #[cntV w0.heap.size]
  len : ds.length = N
  below : Below w0.heap.size w0 w

section
variable {w0 w w' : World} {N : Nat} {L : Option Addr} {cL : Nat} {met : Nat → Bool} {d : Nat} {ds : List Int}
theorem CS.size (h : CS w0 N L cL met d ds w) : w0.heap.size + 6 ≤ w.heap.size := h.kf.lt
theorem CS.step (h : CS w0 N L cL met d ds w) (hb : Below w.heap.size w w') : CS w0 N L cL met d ds w' := by
  obtain ⟨D, hD, hm⟩ := h.mp
  have hg : w.grownBy w' none := ⟨hb.os, hb.tape, hb.output, hb.size, fun k hk _ => hb.block k hk⟩
  exact ⟨h.kl.below hb h.kl.lt, h.row.below hb, h.kc.below hb h.kc.lt, ⟨D, hD.kept hg (by simp), hm⟩, h.km.below hb h.km.lt, h.kf.below hb h.kf.lt, h.len,
    h.below.trans (hb.mono (by have := h.size; omega))⟩
theorem CS.alloc (h : CS w0 N L cL met d ds w) (o : Obj) : CS w0 N L cL met d ds (w.alloc o) := h.step ((Below.refl _ _).alloc (Nat.le_refl _) o)

theorem row_kept {E : TypeId} {base g : Nat} {c : Nat} {zs : List Int} (h : OwnI E w base (some ⟨g, 0, none⟩) c zs) {r : Nat} (hg : w.grownBy w' (some r)) (hr : r ≠ g) : OwnI E w' base (some ⟨g, 0, none⟩) c zs :=
  ⟨h.1, h.2.1, h.2.2.kept hg (.inr (by simpa [Value.ownBlock] using fun e => hr e.symm))⟩

/-- The map has turned, and nothing else. -/
theorem CS.map_ (h : CS w0 N L cL met d ds w) (hg : w.grownBy w' (some (w0.heap.size + 3))) {met' : Nat → Bool} {d' : Nat} {D : DataW Unit} (hD : w'.ownsMap Try.prog 3 unitElem (w0.heap.size + 3) d' D)
    (hm : ∀ j : Nat, j < N → Maps.has D (.int .i64 j) = met' j) : CS w0 N L cL met' d' ds w' :=
  ⟨h.kl.grown hg (by simp), row_kept h.row hg (by omega), h.kc.grown hg (by simp), ⟨D, hD, hm⟩, h.km.grown hg (by simp), h.kf.grown hg (by simp), h.len,
    h.below.grown hg (by have := h.size; omega) (by intro k hk; injection hk; omega)⟩

/-- A number that was counted is kept. -/
theorem CS.set_ (h : CS w0 N L cL met d ds w) (i : Nat) {x : Int} (hx : Fit x) : CS w0 N L cL met d (ds.set i x) (w.setCell ⟨w0.heap.size + 1, i, none⟩ (.int .i64 x)) := by
  obtain ⟨D, hD, hm⟩ := h.mp
  exact ⟨h.kl.far (by simp) _, h.row.set_ i hx, h.kc.far (by simp) _, ⟨D, hD.setCell (by simp) _, hm⟩, h.km.far (by simp) _, h.kf.far (by simp) _, by rw [List.length_set]; exact h.len,
    h.below.setCell (by simp) _⟩

theorem map_tight {P : Program} {k : TypeId} {R : Value → Option (DataW Unit × List MemPlace)} {b n m : Nat} {D : DataW Unit} (h : w.ownsMap P k R b n D) (hm : Maps.size D ≤ m) : w.ownsMap P k R b m D := by
  obtain ⟨es, clock, hb, F, hs, rfl⟩ := h
  exact ⟨es, clock, hb, F, by simpa [Maps.size, length_sorted] using hm, rfl⟩
end

theorem lit_ne {i j : Nat} (h : j ≠ i) : (Lit.int .i64 (j : Int)) ≠ .int .i64 (i : Int) := by
  intro e; injection e with _ e; omega

theorem keyLit (i : Nat) : WideAt.IsKeyLit (Lit.int .i64 (i : Int)) := by trivial

theorem put_met {D : DataW Unit} (hD : IsMap D) {N i : Nat} {met : Nat → Bool} (hm : ∀ j : Nat, j < N → Maps.has D (.int .i64 j) = met j) (d : DataW Unit) :
    ∀ j : Nat, j < N → Maps.has (D.put (.int .i64 i) d) (.int .i64 j) = (met j || j == i) := by
  intro j hj
  by_cases h : j = i
  · subst h
    rw [has_put_same hD (keyLit j)]
    simp
  · rw [has_put_other (lit_ne h), hm j hj]
    simp [h]

theorem del_met {D : DataW Unit} {N i : Nat} {met : Nat → Bool} (hi : met i = false) (hm : ∀ j : Nat, j < N → Maps.has D (.int .i64 j) = (met j || j == i)) :
    ∀ j : Nat, j < N → Maps.has (D.del (.int .i64 i)) (.int .i64 j) = met j := by
  intro j hj
  by_cases h : j = i
  · subst h
    rw [has_del_same, hi]
  · rw [has_del_other (lit_ne h), hm j hj]
    simp [h]

/-- What the closure hands back: what program i comes to (as far as the bound), with all kept as it was but more counted; or the error, where it is never known. -/
def CntAns (l : List (List I3)) (w0 : World) (N : Nat) (L : Option Addr) (cL : Nat) (met : Nat → Bool) (d i : Nat) (e : Ending) (w' : World) : Prop :=
  (∃ f c ds', e = .returned (.tuple #[.int .i64 ((satN 1099511627777 c : Nat) : Int), .int .i64 0]) ∧ cnt l f i = some c ∧ CS w0 N L cL met d ds' w' ∧ ∀ j, j < N → Known 1099511627777 l (nth ds' j) j) ∨
  (e = .returned (.tuple #[.int .i64 0, .int .i64 9]) ∧ (∀ f, cnt l f i = none) ∧ Below w0.heap.size w0 w')

/-- The relation of the closure's loop. -/
def CntRel (l : List (List I3)) (w0 : World) (N : Nat) (L : Option Addr) (cL : Nat) (met : Nat → Bool) (d : Nat) (p : List I3) (m : Nat) (u t : Value) (wr : World) : Prop :=
  ∃ k : Nat, k ≤ m ∧ t = .int .i64 k ∧ ∃ f s ds, kidsK (cnt l f) p k = some s ∧ u = .int .i64 ((satN 1099511627777 s : Nat) : Int) ∧ CS w0 N L cL met d ds wr ∧ ∀ j, j < N → Known 1099511627777 l (nth ds j) j

theorem known_pos {b : Nat} {l : List (List I3)} {x : Int} {j : Nat} (h : Known b l x j) (hx : 0 < x) : ∃ f c, cnt l f j = some c ∧ x = (satN b c : Nat) := by
  rcases h with h | h
  · omega
  · exact h

theorem known_nonneg {b : Nat} {l : List (List I3)} {x : Int} {j : Nat} (h : Known b l x j) : 0 ≤ x ∧ x ≤ b := by
  rcases h with h | ⟨f, c, _, h⟩
  · omega
  · have := sat_le b c; omega

theorem known_set {b N : Nat} {l : List (List I3)} {ds : List Int} (hl : ds.length = N) (h : ∀ j, j < N → Known b l (nth ds j) j) {i f c : Nat} (hc : cnt l f i = some c) : ∀ j, j < N → Known b l (nth (ds.set i ((satN b c : Nat) : Int)) j) j := by
  intro j hj
  rw [nth_set _ _ _ _ (by omega)]
  split
  · rename_i e
    subst e
    exact .inr ⟨f, c, hc, rfl⟩
  · exact h j hj

set_option maxRecDepth 100000 in
set_option maxHeartbeats 2000000 in
theorem count_any (l : List (List I3)) (w0 : World) (N : Nat) (L : Option Addr) (cL : Nat) (hL : Prgs w0 L N l) (hok : okL l) : ∀ (fuel d : Nat) (met : Nat → Bool) (ds : List Int) (i : Nat) (w : World), N < fuel + d → d ≤ many met N →
    (∀ j, j < N → met j = true → Reach l j i) → (∀ j, j < N → Known 1099511627777 l (nth ds j) j) → i < N → CS w0 N L cL met d ds w →
    Calls Try.prog 44 #[.int .i64 (i : Int), .pointer (some ⟨w0.heap.size + 4, 0, none⟩), .pointer (some ⟨w0.heap.size + 2, 0, none⟩), .pointer (some ⟨w0.heap.size, 0, none⟩), .pointer (some ⟨w0.heap.size + 5, 0, none⟩)] w
      (CntAns l w0 N L cL met d i) := by
  intro fuel
  induction fuel with
  | zero =>
    intro d met ds i w h1 h2
    have := many_le met N
    omega
  | succ fuel ih =>
    intro d met ds i w h1 h2 hre hkn hi hs
    have HL := Lib.hid hL
    have HOK := Lib.hid hok
    have HN := Lib.hid hL.1
    have hN16 : N ≤ 16 := by have := hok.2.1; rw [hL.1] at this; exact this
    have hkey : keyOf Try.prog 3 (.int .i64 (i : Int)) = some (.int .i64 (i : Int)) := keyOf_int_mk Try.underlying3 (wf_of_fit (by unfold Fit; omega))
    obtain ⟨D, hD, hm⟩ := hs.mp
    have HS := Lib.hid hs
    have HD := Lib.hid hD
    have HM := Lib.hid hm
    have HKN := Lib.hid hkn
    have HRE := Lib.hid hre
    have hmi := hm i hi
    have HIH := Lib.hid @ih
    have cm := hs.km.one
    have hs1 := hs.alloc (.cells #[] 62)
    clear hL hok hD hm hkn hre hs ih
    by_cases hon : met i = true
    · have HNO : Hid (∀ f, cnt l f i = none) := Lib.hid (fun f => reach_self (HRE.out i hi hon) f)
      have HB1 := Lib.hid hs1.below
      rw [hon] at hmi
      clear hs1
      go_enter Try.func44, Try.ntmps44
      go_wp2_with (at_lookup; refine wpList_lookup_own_unit _ rfl _ _ 61 rfl 3 62 Try.lawInt Try.underlying61 (Try.zeroUnit _) (w0.heap.size + 3) d _ rfl HD.out _ _ rfl hkey ?_)
      go_ret2
      exact .inr ⟨rfl, HNO.out, HB1.out⟩
    · replace hon := bool_no hon
      rw [hon] at hmi
      have c2 := hs1.kc.one
      have cm1 := hs1.km.one
      have cv := (hs1.row.at_ (j := i) (by rw [hs1.len]; exact hi)).1
      have HS1 := Lib.hid hs1
      clear hs1
      by_cases hpos : 0 < nth ds i
      · obtain ⟨f, c, hc, hx⟩ := known_pos (HKN.out i hi) hpos
        have HC := Lib.hid hc
        have HX := Lib.hid hx
        clear hc hx
        go_enter Try.func44, Try.ntmps44
        go_wp2_with (at_lookup; refine wpList_lookup_own_unit _ rfl _ _ 61 rfl 3 62 Try.lawInt Try.underlying61 (Try.zeroUnit _) (w0.heap.size + 3) d _ rfl HD.out _ _ rfl hkey ?_)
        go_ret2
        exact .inl ⟨f, c, ds, by rw [HX.out]; rfl, HC.out, HS1.out, HKN.out⟩
      · obtain ⟨b, o, B, m0, c0, rfl, hb, hcell, hpr⟩ := HL.out.at_ hi
        have HP := Lib.hid hpr
        have HPL := Lib.hid hpr.1
        have hm0 := Nat.le_trans hpr.2.1.1 hpr.2.1.2
        have HRL := Lib.hid (runLen_le (pth l i))
        have HC0 := Lib.hid hcell
        have hmany := many_put hi hon
        have hman2 := many_le (fun j => met j || j == i) N
        have hdm : d < maxLen := by unfold maxLen; omega
        clear hpr hcell
        go_enter Try.func44, Try.ntmps44
        go_wp2_with (first
          | (at_lookup; refine wpList_lookup_own_unit _ rfl _ _ 61 rfl 3 62 Try.lawInt Try.underlying61 (Try.zeroUnit _) (w0.heap.size + 3) d _ rfl HD.out _ _ rfl hkey ?_)
          | (at_mapUpdate; refine wpList_mapUpdate_own _ rfl _ _ _ 61 rfl 3 62 Try.lawInt Try.underlying61 (unitElem (H := Unit)) (w0.heap.size + 3) d _ rfl (HD.out.alloc _) hdm _ _ _ rfl rfl hkey _ [] unitElem_mk ?_
             intro w1 hown1 hgrow1
             have HS2 := Lib.hid (HS1.out.map_ hgrow1 hown1 (put_met HD.out.isMap HM.out _))
             have cl := HS2.out.kl.one
             have ci := (HS2.out.below.cell (p := ⟨b, o + i, none⟩) hb).trans HC0.out
             clear hown1 hgrow1)
          | (go_at_call 26
             refine (toExit_any B m0 c0 _ _ (HP.out.below HS2.out.below)).mono ?_
             rintro e w2 ⟨rfl, hb2⟩
             have HS3 := Lib.hid (HS2.out.step hb2)
             clear hb2 cl ci))
        generalize hm : runLen (pth l i) = m
        have HMM := Lib.hid hm
        have hmm0 : m ≤ m0 := by rw [← hm, ← HPL.out]; exact HRL.out
        clear hm
        go_loopw [10, 40] (fun u t wr => CntRel l w0 N (some ⟨b, o, none⟩) cL (fun j => met j || j == i) (d + 1) (pth l i) m u t wr) (fun _ t _ => m - (intOf t).toNat)
        case atStart => exact ⟨0, Nat.zero_le _, rfl, 0, 1, ds, rfl, rfl, HS3.out, HKN.out⟩
        case round =>
          obtain ⟨k, hk, rfl, f, s, es, hks, rfl, hs4, hkn4⟩ := hrel
          have HKS := Lib.hid hks
          have HS4 := Lib.hid hs4
          have HK4 := Lib.hid hkn4
          have hsat := sat_le 1099511627777 s
          have hsat1 : 1 ≤ satN 1099511627777 s := sat_pos (by omega) (kids_pos hks)
          clear hks hs4 hkn4
          by_cases hlt : k < m
          · obtain ⟨b1, o1, rfl, hbl, g0, g1, g2⟩ := (HP.out.below HS4.out.below).at_ (j := k) (by omega)
            by_cases hsp : jO (pth l i) k = 2
            · have hsp1 : (jO (pth l i) k != 2) = false := by simpa using hsp
              have HSP := Lib.hid hsp
              have hci := okL_closed HOK.out i (by rw [HN.out]; exact hi) k (by rw [HMM.out]; exact hlt) hsp
              rw [HN.out] at hci
              have hja := (may_bound (((HOK.out.2.2 i (by rw [HN.out]; exact hi)).1).2.2 k (by rw [HPL.out]; omega))).2.2.1
              obtain ⟨a, ha⟩ : ∃ a : Nat, jA (pth l i) k = (a : Int) := ⟨(jA (pth l i) k).toNat, by unfold jA; omega⟩
              have HSpawn : Hid (Spawns l i a) := Lib.hid ⟨k, by rw [HMM.out]; exact hlt, hsp, by rw [ha]; rfl⟩
              rw [ha] at g1 hci
              have HA := Lib.hid ha
              have cf := (HS4.out.alloc (.cells #[.int .i64 (jO (pth l i) k), .int .i64 (a : Int), .int .i64 (jB (pth l i) k)] 42)).kf.one
              unfold cntV at cf
              clear hsp ha hja
              go_wp2_with fail
              refine (HIH.out (d + 1) (fun j => met j || j == i) es a _ (by omega) (by omega) (fun j hj hmj => ?_) HK4.out hci (HS4.out.alloc _)).mono ?_
              · by_cases e : j = i
                · subst e; exact .one HSpawn.out
                · exact .more (HRE.out j hj (by simpa [e] using hmj)) HSpawn.out
              rintro e w3 (⟨f', c', ds', rfl, hc', hs5, hk5⟩ | ⟨rfl, hno, hb5⟩)
              · have hsat2 := sat_le 1099511627777 c'
                have HC := Lib.hid hc'
                have HS5 := Lib.hid hs5
                have HK5 := Lib.hid hk5
                have HAD : Hid ((min (((satN 1099511627777 s : Nat) : Int) + ((satN 1099511627777 c' : Nat) : Int)) 1099511627777) = ((satN 1099511627777 (s + c') : Nat) : Int)) := Lib.hid (by unfold satN; omega)
                have HKS' : Hid (kidsK (cnt l (max f f')) (pth l i) (k + 1) = some (s + c')) := Lib.hid (kids_spawn (kids_mono (fun j e he => cnt_mono he (Nat.le_max_left _ _)) HKS.out) HSP.out (by rw [HA.out]; exact cnt_mono hc' (Nat.le_max_right _ _)))
                clear hc' hs5 hk5
                go_wp2
                go_roundw
                case rel => exact ⟨k + 1, by omega, by go_num, _, _, ds', HKS'.out, by rw [HAD.out], HS5.out, HK5.out⟩
                case measure => simp [intOf]; omega
              · have HNO := Lib.hid (child_none HSpawn.out hno)
                have HB5 := Lib.hid hb5
                clear hno hb5
                go_wp2
                go_ret2
                exact .inr ⟨rfl, HNO.out, HB5.out⟩
            · have hsp1 : (jO (pth l i) k != 2) = true := by simpa using hsp
              have HKS' := Lib.hid (kids_other HKS.out hsp)
              have HS5 := fun X => Lib.hid (HS4.out.alloc X)
              clear hsp
              go_wp2
              go_roundw
              case rel => exact ⟨k + 1, by omega, by go_num, f, s, es, HKS'.out, rfl, (HS5 _).out, HK4.out⟩
              case measure => simp [intOf]; omega
          · obtain rfl : k = m := by omega
            obtain ⟨D4, hD4, hm4⟩ := HS4.out.mp
            have HD4 := Lib.hid hD4
            have HM4 := Lib.hid hm4
            have HCN : Hid (cnt l (f + 1) i = some s) := Lib.hid (by rw [← HKS.out, cnt, HMM.out])
            have hlen := HS4.out.len
            have cm4 := HS4.out.km.one
            clear hD4 hm4
            go_wp2_with (at_delete; refine wpList_delete_own _ rfl _ _ 61 3 rfl 62 Try.lawInt Try.underlying61 (unitElem (H := Unit)) (w0.heap.size + 3) (d + 1) D4 rfl HD4.out _ _ rfl hkey ?_; intro w5 hown5 hturn5; have HS5 := Lib.hid (HS4.out.map_ hturn5.grown (map_tight hown5 (m := d) (by have h1 := size_del (k := .int .i64 (i : Int)) (HD4.out.tidy Try.lawInt); have h2 := HM4.out i hi; simp only [beq_self_eq_true, Bool.or_true] at h2; rw [h2] at h1; have h3 := HD4.out.size_le; simp at h1; omega)) (del_met hon HM4.out)); have c5 := HS5.out.kc.one; have cr := HS5.out.row.at_ (j := i) (by rw [HS5.out.len]; exact hi); obtain ⟨cr1, cr2⟩ := cr; clear hown5 hturn5)
            go_ret2
            exact .inl ⟨f + 1, s, _, rfl, HCN.out, HS5.out.set_ i (by unfold Fit; omega), known_set hlen HK4.out HCN.out⟩

end Go.Proofs.Ytcbgmhbmdklbfaa
